/- SchemaValid's walk. -/
import Derived.Test.YtdehldcgakdobaaDoorScEnd
import Derived.Test.YtdehldcgakdobaaDoorARow
namespace Go.Proofs.YtdehldcgakdobaaDoor.Sc
open Go.RowKit Go.Lib Go.Proofs.YtdehldcgakdobaaDoor.Bas Go.Proofs.YtdehldcgakdobaaDoor.Cal Go.Proofs.YtdehldcgakdobaaDoor.Lx Go.Proofs.YtdehldcgakdobaaDoor.Dk
set_option linter.unusedVariables false

def RangeOut (B d : Nat) (v : Value) (l : List Int) (w : World) (e : Ending) (w' : World) : Prop := ∃ y : Int, -2 ≤ y ∧ y ≤ 2 ∧ e = .returned (.int .i64 y) ∧ Deck B w' d v l ∧ Kept d w w'
theorem drange_any (B d : Nat) (v : Value) (l : List Int) (w : World) (h : Deck B w d v l) :
    Calls Tryd.prog 11 #[.pointer (some ⟨d, 0, none⟩), .int .i64 (-2), .int .i64 2] w (RangeOut B d v l w) := by
  have c5 := Lib.hid (next_any B d v l w 5 (by decide) (by decide) h)
  clear h
  go_enter Tryd.func11, Tryd.ntmps11
  go_wp2_with fail
  refine c5.out.mono ?_; rintro e w' ⟨z, hz, rfl, hD, hK⟩
  have hD' := Lib.hid hD
  have hK' := Lib.hid hK
  have e1 : IntKind.i64.wrap (-2 + (z : Int)) = -2 + (z : Int) := IntWalk.i64_in _ (by omega)
  clear hD hK
  go_wp2_with fail
  go_ret
  exact ⟨-2 + (z : Int), by omega, by omega, rfl, hD'.out, hK'.out⟩
theorem wf_small (z : Int) (h1 : -9223372036854775808 ≤ z) (h2 : z ≤ 9223372036854775807) : (Lit.int .i64 z).wf = true := by
  simp [Lit.wf, IntKind.min, IntKind.max, IntKind.signed, IntKind.bits]
  omega
theorem hi_bd (a : At) (h : attE a = 0) : -1000000000 ≤ a.hi ∧ a.hi ≤ 1000000000 ∧ a.ws.length ≤ 12 := by
  rcases attE_ok a h with ⟨_, _, h2, _, h4, _⟩ | ⟨_, h1, h2, h3, h4⟩ | ⟨_, h1, _, h3⟩ <;> omega
def newNames : List (List UInt8) := [[112, 101, 114, 105, 108], [110], [116], [108, 105, 109, 105, 116], []]
def newWords : List (List UInt8) := [[102, 105, 114, 101], [122, 111, 110, 101], [105, 110], [65]]
theorem newNames_len (z : Nat) (h : z < 5) : (newNames.getD z []).length ≤ 5 := by
  have : z = 0 ∨ z = 1 ∨ z = 2 ∨ z = 3 ∨ z = 4 := by omega
  rcases this with rfl | rfl | rfl | rfl | rfl <;> decide
theorem newWords_len (z : Nat) (h : z < 4) : (newWords.getD z []).length ≤ 5 := by
  have : z = 0 ∨ z = 1 ∨ z = 2 ∨ z = 3 := by omega
  rcases this with rfl | rfl | rfl | rfl <;> decide
theorem keep3 {W5 wk w' : World} {b0 b11 b13 : Nat} {v0 v1 v3 : Value} (h0 : OAt W5 b0 v0) (h1 : OAt W5 b11 v1) (h3 : OAt W5 b13 v3) (h : wk.cell? ⟨b0, 0, none⟩ = some v0 ∧ wk.cell? ⟨b11, 0, none⟩ = some v1 ∧ wk.cell? ⟨b13, 0, none⟩ = some v3 ∧ Below W5.heap.size W5 wk) (hB : Below wk.heap.size wk w') :
    w'.cell? ⟨b0, 0, none⟩ = some v0 ∧ w'.cell? ⟨b11, 0, none⟩ = some v1 ∧ w'.cell? ⟨b13, 0, none⟩ = some v3 ∧ Below W5.heap.size W5 w' := by
  have hz := trans_b h.2.2.2 hB
  exact ⟨(h0.keep hz).2, (h1.keep hz).2, (h3.keep hz).2, hz⟩
theorem wf_set (P : List (At × Value)) (i : Nat) (q : At × Value) (hP : ∀ a ∈ P.map (·.1), AtWf a) (hq : AtWf q.1) : ∀ a ∈ (P.set i q).map (·.1), AtWf a := by
  intro a ha
  obtain ⟨z, hz, rfl⟩ := List.mem_map.1 ha
  rcases List.mem_or_eq_of_mem_set hz with h | h
  · exact hP _ (List.mem_map.2 ⟨z, h, rfl⟩)
  · rw [h]; exact hq
/-- Behind the switch: some attribute in the variable; nothing below has changed. -/
def SwOut (Bd : Nat) (W8 : World) (b15 g5 : Nat) (wx : World) : Prop := ∃ (x : At) (u : Value), AtWf x ∧ VAt wx b15 x u ∧ StrsAt wx u x.ws ∧ OffB g5 u ∧ Below Bd W8 wx
set_option maxRecDepth 8000 in
set_option maxHeartbeats 32000000 in
theorem valid_walk (u : Value) (L : List At) (k at0 : Int) (ua : Value) (x : At) (vd : Value) (l : List Int) (w : World) (hE : EnvS w)
    (hA : AttsAt w u L) (hl : L.length ≤ 9223372036854775807) (hw : ∀ x ∈ L, AtWf x) (hk0 : (Lit.int .i64 k).wf = true) (ha0 : (Lit.int .i64 at0).wf = true)
    (hSx : StrsAt w ua x.ws) (hwx : AtWf x) (hD : IntsAt w vd l) (hld : l.length ≤ 9223372036854775807) (hwd0 : ∀ x ∈ l, (Lit.int .i64 x).wf = true) :
    Calls Tryd.prog 3 #[.agg #[u], .int .i64 k, .int .i64 at0, .agg #[.string (tx x.nm), .int .i64 x.k, ua, .int .i64 x.lo, .int .i64 x.hi], vd] w (BoolBe true w) := by
  have hk := Go.bounds_i64 hk0
  have ha := Go.bounds_i64 ha0
  have hwd : ∀ x ∈ l, -9223372036854775808 ≤ x ∧ x ≤ 9223372036854775807 := fun x hx => Go.bounds_i64 (hwd0 x hx)
  have hal0 := alloc_at w (.cells #[u] 24)
  have hal1 := alloc_at (w.alloc (.cells #[u] 24)) (.cells #[.string (tx x.nm), .int .i64 x.k, ua, .int .i64 x.lo, .int .i64 x.hi] 27)
  have B0 := Lib.hid (trans_b hal0 hal1)
  have A0 := Lib.hid (hA.below B0.out)
  have O0 := Lib.hid ((OAt.new w u 24).keep hal1)
  have X0 := Lib.hid (AAt.new (w.alloc (.cells #[u] 24)) x ua 27)
  have S0 := Lib.hid (hSx.below B0.out)
  have E0 := Lib.hid (hE.keep B0.out)
  have cNew := Lib.hid (fun W (hb : Below w.heap.size w W) => new_any vd l W (hD.below hb) hld hwd)
  have cK := Lib.hid (fun w => made_any k w hk.1 hk.2)
  have hkb := wi_bd k 6 (by omega)
  have hmo := Lib.hid (made_ok (wi k 6) (by omega))
  obtain ⟨p, c, rfl, _, _⟩ := hA
  obtain ⟨pd, cd, rfl, _⟩ := hD
  have c1 := Lib.hid (fun W hA => pval_any (.slice p L.length c) W L hA hl hw)
  have c2 := Lib.hid (fun W hA => rschema_any (.slice p L.length c) W L hA hl hw)
  generalize madeS (wi k 6) = M at *
  generalize wi k 6 = kx at *
  obtain ⟨nL, hnL⟩ : ∃ n, L.length = n := ⟨_, rfl⟩
  rw [hnL] at A0 O0 B0 E0 c1 c2 hl X0 S0 ⊢
  generalize schE L = R at *
  clear hE hw hwd hld hk hkb hnL hk0 hwd0 ha0 hal0 hal1
  obtain ⟨b0, hb0⟩ : ∃ b, w.heap.size = b := ⟨_, rfl⟩
  obtain ⟨b8, hb8⟩ : ∃ b, (w.alloc (.cells #[.slice p nL c] 24)).heap.size = b := ⟨_, rfl⟩
  have hb8' : w.heap.size + 1 = b8 := by rw [← hb8]; simp
  rw [hb0] at O0
  rw [hb8] at X0
  have hb0' := Lib.hid hb0
  have hb8h := Lib.hid hb8'
  clear hb8 hb0 hb8'
  have hwx' := Lib.hid hwx
  clear hwx hSx
  by_cases h20 : 20 < nL
  · have u1 : decide ((20 : Int) < (nL : Int)) = true := by simp; omega
    have u3 : decide (20 < nL) = true := by simp; omega
    go_enter Tryd.func3, Tryd.ntmps3
    go_upto_region 1 with fail
    rw [hb8h.out, hb0'.out]
    generalize (w.alloc (.cells #[.slice p nL c] 24)).alloc (.cells #[.string (tx x.nm), .int .i64 x.k, ua, .int .i64 x.lo, .int .i64 x.hi] 27) = W0 at *
    have x0 := O0.out.2
    go_wp2_with fail
    refine (awake_of _ E0.out).mono ?_; rintro e W9 ⟨rfl, hB9⟩
    have B9 := Lib.hid (trans_b B0.out hB9)
    clear hB9
    go_wp2_with fail
    go_ret
    exact ⟨rfl, B9.out⟩
  · have u1 : decide ((20 : Int) < (nL : Int)) = false := by simp; omega
    have u3 : decide (20 < nL) = false := by simp; omega
    go_enter Tryd.func3, Tryd.ntmps3
    go_upto_region 1 with fail
    rw [hb8h.out, hb0'.out]
    generalize (w.alloc (.cells #[.slice p nL c] 24)).alloc (.cells #[.string (tx x.nm), .int .i64 x.k, ua, .int .i64 x.lo, .int .i64 x.hi] 27) = W0 at *
    have x0 := O0.out.2
    go_wp2_with fail
    clear x0 u1 u3 h20 hb0' hb8h
    refine (cK.out W0).mono ?_; rintro e W3 ⟨us, rfl, hAs, hB3⟩
    have hM := (schE_ok M hmo.out.1)
    have hM1 := hM.1
    have hM6 := hM.2.1
    obtain ⟨P, bs, os, cs, hP, hW3, rfl, hcP, hone⟩ := atts_pairs hAs (by omega)
    have hPl : P.length = M.length := by rw [← hP]; simp
    have hlbs : bs < W3.heap.size := World.block_lt_of_cell? _ _ (hcP 0 _ (by have := (fl5_at P 0 (by omega)).1; simpa using this))
    have B3 := Lib.hid (trans_b B0.out hB3)
    have E3 := Lib.hid (E0.out.keep hB3)
    have A3 := Lib.hid (A0.out.below hB3)
    have O3 := Lib.hid (O0.out.keep hB3)
    have X3 := Lib.hid (X0.out.keep hB3)
    have S3 := Lib.hid (S0.out.below hB3)
    have V3 := Lib.hid hW3
    have hcP' := Lib.hid hcP
    have hone' := Lib.hid hone
    have hP' := Lib.hid hP
    rw [← hPl] at hM1 hM6 ⊢
    have hPl' := Lib.hid hPl
    clear hPl
    clear hAs hB3 E0 B0 cK A0 O0 X0 S0 hW3 hcP hone hP hM
    -- t
    go_upto_region 4 with fail
    have C4 := Lib.hid (CAt.new W3 (.slice (some ⟨bs, os, none⟩) P.length cs) 24)
    have hal := alloc_at W3 (.cells #[.slice (some ⟨bs, os, none⟩) P.length cs] 24)
    have D4 := Lib.hid hal
    obtain ⟨b11, hb11⟩ : ∃ b, W3.heap.size = b := ⟨_, rfl⟩
    rw [hb11] at C4 ⊢
    have hb4 := Lib.hid (show (W3.alloc (.cells #[.slice (some ⟨bs, os, none⟩) P.length cs] 24)).heap.size = b11 + 1 from by rw [← hb11]; simp)
    have hc4 := Lib.hid (show ∀ j u, (fl5 P)[j]? = some u → ((W3.alloc (.cells #[.slice (some ⟨bs, os, none⟩) P.length cs] 24)).alloc (.cells #[] 27)).cell? ⟨bs, os + j, none⟩ = some u from fun j u hu => by
      rw [(trans_b hal (alloc_at _ _)).cell (p := ⟨bs, os + j, none⟩) hlbs]; exact hcP'.out j u hu)
    have hc11 := Lib.hid hb11
    clear hb11 hal
    generalize W3.alloc (.cells #[.slice (some ⟨bs, os, none⟩) P.length cs] 24) = W4 at *
    have x4 := (C4.out.keep (alloc_at W4 (.cells #[] 27))).1.2
    have hP6 : P.length ≤ 100 := by omega
    go_wp2_with (at_builtin; refine wpList_copy_atts (w := W4) rfl (.tmp 23) (.tmp 25) rfl P bs os cs hP6 hc4.out hone'.out (by first | rfl | simp) rfl ?_; intro v5 w5 hown5 hgrow5; refine Hid.out ?_)
    refine Lib.hid ?_
    have F5 := below_copy hgrow5
    have C5 := C4.out.keep F5
    obtain ⟨g5, cc5, rfl, hg5, hg5s, hcc5⟩ := hown5.form (by omega)
    have hge := F5.size
    have R5 := Lib.hid (show ARow W4.heap.size (w5.setCell ⟨b11, 0, none⟩ (.slice (some ⟨g5, 0, none⟩) P.length cc5)) (.slice (some ⟨g5, 0, none⟩) P.length cc5) P from own_other hown5 (by intro e; have e2 : g5 = b11 := Option.some.inj e; rw [hb4.out] at hg5; omega) _)
    have C6 := Lib.hid (C5.set (.slice (some ⟨g5, 0, none⟩) P.length cc5))
    have D5 := Lib.hid ((D4.out.trans (F5.mono D4.out.size)).setCell (p := ⟨b11, 0, none⟩) (by show W3.heap.size ≤ b11; rw [hc11.out]; exact Nat.le_refl _) (.slice (some ⟨g5, 0, none⟩) P.length cc5))
    have y5 := C5.1.2
    have f5 := C5.2
    have hg5b := Lib.hid (show b11 < g5 from by rw [hb4.out] at hg5; omega)
    clear hown5 hgrow5 x4 F5 C5 hc4 C4 D4 hge hg5
    go_upto_region 5 with fail
    clear y5 f5
    have hb4' := hb4.out
    rw [hb4'] at R5
    clear hb4 hb4'
    generalize w5.setCell ⟨b11, 0, none⟩ (.slice (some ⟨g5, 0, none⟩) P.length cc5) = W5 at *
    -- the index
    obtain ⟨kw1, kw2⟩ := wi_bd at0 P.length (by omega)
    obtain ⟨i, hi⟩ : ∃ i : Nat, wi at0 P.length = i := ⟨(wi at0 P.length).toNat, by omega⟩
    have cW := Lib.hid (fun W => within_any at0 P.length W ha.1 ha.2 (by omega) (by omega))
    rw [hi] at cW kw2
    have hin : i < P.length := by omega
    clear kw1 kw2 hi
    have x5 := C6.out.1.2
    go_wp2_with fail
    refine (cW.out _).mono ?_; rintro e w' ⟨rfl, rfl⟩
    clear cW
    -- u
    go_upto_region 7 with fail
    clear x5
    have hal := alloc_at W5 (.cells #[.slice (some ⟨g5, 0, none⟩) P.length cc5] 24)
    have R7 := Lib.hid (R5.out.keep hal)
    have C7 := Lib.hid (C6.out.keep hal)
    have D7 := Lib.hid (D5.out.trans (hal.mono D5.out.size))
    have N7 := Lib.hid (CAt.new W5 (.slice (some ⟨g5, 0, none⟩) P.length cc5) 24)
    have hgs := R5.out.block g5 rfl
    obtain ⟨b13, hb13⟩ : ∃ b, W5.heap.size = b := ⟨_, rfl⟩
    rw [hb13] at N7 hgs ⊢
    have hb7 := Lib.hid (show (W5.alloc (.cells #[.slice (some ⟨g5, 0, none⟩) P.length cc5] 24)).heap.size = b13 + 1 from by rw [← hb13]; simp)
    have hd13 := Lib.hid (show W3.heap.size ≤ b13 from by rw [← hb13]; exact D5.out.size)
    have hg13 := Lib.hid hgs
    clear hb13 hal R5 C6 D5 hgs
    generalize W5.alloc (.cells #[.slice (some ⟨g5, 0, none⟩) P.length cc5] 24) = W7 at *
    have hc7 := Lib.hid (show ∀ j u, (fl5 P)[j]? = some u → (W7.alloc (.cells #[] 27)).cell? ⟨g5, 0 + j, none⟩ = some u from (R7.out.keep (alloc_at _ _)).src)
    have x7 := (C7.out.keep (alloc_at W7 (.cells #[] 27))).1.2
    go_wp2_with (at_builtin; refine wpList_copy_atts (w := W7) rfl (.tmp 34) (.tmp 36) rfl P g5 0 cc5 hP6 hc7.out hone'.out (by first | rfl | simp) rfl ?_; intro v8 w8 hown8 hgrow8; refine Hid.out ?_)
    refine Lib.hid ?_
    have F8 := below_copy hgrow8
    have N8 := N7.out.keep F8
    obtain ⟨g8, cc8, rfl, hg8, hg8s, hcc8⟩ := hown8.form (by omega)
    rw [hb7.out] at hg8
    have hg8h := Lib.hid hg8
    have U8 := Lib.hid (show ARow W7.heap.size (w8.setCell ⟨b13, 0, none⟩ (.slice (some ⟨g8, 0, none⟩) P.length cc8)) (.slice (some ⟨g8, 0, none⟩) P.length cc8) P from own_other hown8 (by intro e; have e2 : g8 = b13 := Option.some.inj e; omega) _)
    have R8 := Lib.hid (show ARow (b11 + 1) (w8.setCell ⟨b13, 0, none⟩ (.slice (some ⟨g8, 0, none⟩) P.length cc8)) (.slice (some ⟨g5, 0, none⟩) P.length cc5) P from own_other (R7.out.keep F8) (by intro e; have e2 : g5 = b13 := Option.some.inj e; have := hg13.out; omega) _)
    have C8 := Lib.hid (show CAt (w8.setCell ⟨b13, 0, none⟩ (.slice (some ⟨g8, 0, none⟩) P.length cc8)) b11 (.slice (some ⟨g5, 0, none⟩) P.length cc5) from by
      have hh := C7.out.keep F8
      have := hg13.out
      have := hg5b.out
      exact ⟨⟨by simpa using hh.1.1, by rw [World.cell?_setCell_other _ _ _ _ (by intro e; simp only [Addr.mk.injEq] at e; omega)]; exact hh.1.2⟩, by rw [World.frozen?_setCell]; exact hh.2⟩)
    have M8 := Lib.hid (N8.set (.slice (some ⟨g8, 0, none⟩) P.length cc8))
    have D8 := Lib.hid ((D7.out.trans (F8.mono D7.out.size)).setCell (p := ⟨b13, 0, none⟩) hd13.out (.slice (some ⟨g8, 0, none⟩) P.length cc8))
    have y8 := N8.1.2
    have f8 := N8.2
    clear hown8 hgrow8 x7 F8 N8 hc7 C7 D7 N7 R7 hg8
    go_upto_region 8 with fail
    clear y8 f8
    generalize w8.setCell ⟨b13, 0, none⟩ (.slice (some ⟨g8, 0, none⟩) P.length cc8) = W8 at *
    have X8 := Lib.hid (X3.out.keep D8.out)
    have q0 := X8.out.2.1
    have q1 := X8.out.2.2.1
    have q2 := X8.out.2.2.2.1
    have q3 := X8.out.2.2.2.2.1
    have q4 := X8.out.2.2.2.2.2
    have x8 := M8.out.1.2
    obtain ⟨y0, y1, y2, y3, y4⟩ := U8.out.cells i hin
    have f0 := U8.out.frozen (i * 5)
    have f1 := U8.out.frozen (i * 5 + 1)
    have f2 := U8.out.frozen (i * 5 + 2)
    have f3 := U8.out.frozen (i * 5 + 3)
    have f4 := U8.out.frozen (i * 5 + 4)
    have z1 : ∀ v, (W8.setCell ⟨g8, i * 5, none⟩ v).cell? ⟨g8, i * 5 + 1, none⟩ = some (.int .i64 (pa P i).1.k) := fun v => by
      rw [World.cell?_setCell_other _ _ _ _ (by intro e; simp only [Addr.mk.injEq] at e; omega)]; exact y1
    have z2 : ∀ v v2, ((W8.setCell ⟨g8, i * 5, none⟩ v).setCell ⟨g8, i * 5 + 1, none⟩ v2).cell? ⟨g8, i * 5 + 2, none⟩ = some (pa P i).2 := fun v v2 => by
      rw [World.cell?_setCell_other _ _ _ _ (by intro e; simp only [Addr.mk.injEq] at e; omega), World.cell?_setCell_other _ _ _ _ (by intro e; simp only [Addr.mk.injEq] at e; omega)]; exact y2
    have z3 : ∀ v v2 v3, (((W8.setCell ⟨g8, i * 5, none⟩ v).setCell ⟨g8, i * 5 + 1, none⟩ v2).setCell ⟨g8, i * 5 + 2, none⟩ v3).cell? ⟨g8, i * 5 + 3, none⟩ = some (.int .i64 (pa P i).1.lo) := fun v v2 v3 => by
      rw [World.cell?_setCell_other _ _ _ _ (by intro e; simp only [Addr.mk.injEq] at e; omega), World.cell?_setCell_other _ _ _ _ (by intro e; simp only [Addr.mk.injEq] at e; omega), World.cell?_setCell_other _ _ _ _ (by intro e; simp only [Addr.mk.injEq] at e; omega)]; exact y3
    have z4 : ∀ v v2 v3 v4, ((((W8.setCell ⟨g8, i * 5, none⟩ v).setCell ⟨g8, i * 5 + 1, none⟩ v2).setCell ⟨g8, i * 5 + 2, none⟩ v3).setCell ⟨g8, i * 5 + 3, none⟩ v4).cell? ⟨g8, i * 5 + 4, none⟩ = some (.int .i64 (pa P i).1.hi) := fun v v2 v3 v4 => by
      rw [World.cell?_setCell_other _ _ _ _ (by intro e; simp only [Addr.mk.injEq] at e; omega), World.cell?_setCell_other _ _ _ _ (by intro e; simp only [Addr.mk.injEq] at e; omega), World.cell?_setCell_other _ _ _ _ (by intro e; simp only [Addr.mk.injEq] at e; omega), World.cell?_setCell_other _ _ _ _ (by intro e; simp only [Addr.mk.injEq] at e; omega)]; exact y4
    obtain ⟨pua, cua, hua, _, _⟩ := S3.out
    subst hua
    have S8 := Lib.hid (S3.out.below D8.out)
    have hU := Lib.hid (U8.out.setAll i hin (x, .slice pua x.ws.length cua))
    have hW13 := Lib.hid (show b13 < (put5 W8 g8 i (x, .slice pua x.ws.length cua)).heap.size from by rw [put5_size]; exact M8.out.1.1)
    have R9 := Lib.hid (show ARow (b11 + 1) (put5 W8 g8 i (x, .slice pua x.ws.length cua)) (.slice (some ⟨g5, 0, none⟩) P.length cc5) P from put5_other R8.out (by intro e; have e2 : g5 = g8 := Option.some.inj e; have := hg13.out; have := hg8h.out; omega) _)
    have C9 := Lib.hid (show OAt (put5 W8 g8 i (x, .slice pua x.ws.length cua)) b11 (.slice (some ⟨g5, 0, none⟩) P.length cc5) from ⟨by rw [put5_size]; exact C8.out.1.1, by rw [put5_cell (by have := hg5b.out; have := hg13.out; have := hg8h.out; omega)]; exact C8.out.1.2⟩)
    have N9 := Lib.hid (show OAt (put5 W8 g8 i (x, .slice pua x.ws.length cua)) b13 (.slice (some ⟨g8, 0, none⟩) P.length cc8) from ⟨by rw [put5_size]; exact M8.out.1.1, by rw [put5_cell (by have := hg8h.out; omega)]; exact M8.out.1.2⟩)
    have D9 := Lib.hid (put5_below (k := i) D8.out (show W3.heap.size ≤ g8 from by have := hd13.out; have := hg8h.out; omega) (x, .slice pua x.ws.length cua))
    go_upto_region 9 with fail
    refine (show Code.wp _ _ _ _ (put5 W8 g8 i (x, .slice pua x.ws.length cua)) from ?_)
    clear q0 q1 q2 q3 q4 x8 y0 y1 y2 y3 y4 f0 f1 f2 f3 f4 z1 z2 z3 z4 U8 R8 C8 M8 D8 X8 S8
    generalize put5 W8 g8 i (x, .slice pua x.ws.length cua) = W9 at *
    have cD := Lib.hid (cNew.out W9 (trans_b B3.out D9.out))
    clear cNew
    go_wp2_with fail
    refine cD.out.mono ?_; rintro e W10 ⟨d, rfl, hDk, hB10⟩
    have K10 := Lib.hid hDk
    have hU10 := Lib.hid (hU.out.keep hB10)
    have R10 := Lib.hid (R9.out.keep hB10)
    have C10 := Lib.hid (C9.out.keep hB10)
    have N10 := Lib.hid (N9.out.keep hB10)
    have F10 := Lib.hid hB10
    have D10 := Lib.hid (D9.out.trans (hB10.mono D9.out.size))
    clear hDk hB10 cD
    -- x
    obtain ⟨pq, cq, hq, hcap, _⟩ := (V3.out i hin)
    obtain ⟨y0, y1, y2, y3, y4⟩ := R10.out.cells i hin
    rw [hq] at y2
    have hq' := Lib.hid hq
    have x10 := C10.out.2
    clear hq
    go_upto_region 11 with fail
    have hal := alloc_at W10 (.cells #[.string (tx (pa P i).1.nm), .int .i64 (pa P i).1.k, .slice pq (pa P i).1.ws.length cq, .int .i64 (pa P i).1.lo, .int .i64 (pa P i).1.hi] 27)
    have T11 := Lib.hid (VAt.new W10 (pa P i).1 (.slice pq (pa P i).1.ws.length cq) 27)
    have K11 := Lib.hid (K10.out.below hal)
    have F11 := Lib.hid (F10.out.trans (hal.mono F10.out.size))
    have hdd := Lib.hid (show d < W10.heap.size from K10.out.lt)
    obtain ⟨b15, hb15⟩ : ∃ b, W10.heap.size = b := ⟨_, rfl⟩
    rw [hb15] at T11 hdd ⊢
    have h915 := Lib.hid (show W9.heap.size ≤ b15 from by rw [← hb15]; exact F10.out.size)
    clear hb15 y0 y1 y2 y3 y4 x10 hal
    generalize W10.alloc (.cells #[.string (tx (pa P i).1.nm), .int .i64 (pa P i).1.k, .slice pq (pa P i).1.ws.length cq, .int .i64 (pa P i).1.lo, .int .i64 (pa P i).1.hi] 27) = W11 at *
    have c7 := Lib.hid (next_any W9.heap.size d (.slice pd l.length cd) l W11 7 (by decide) (by decide) K11.out)
    go_wp2_with fail
    refine c7.out.mono ?_; rintro e W12 ⟨s, hs, rfl, hDk, hKt⟩
    have K12 := Lib.hid hDk
    have T12 := Lib.hid (T11.out.blk (hKt.block b15 T11.out.1.1 (by have := hdd.out; omega)) hKt.size)
    have F12 := Lib.hid (F11.out.trans (hKt.below K11.out.ge F11.out.size))
    clear hDk hKt c7 T11 K11 F11
    have hxm : (pa P i).1 ∈ M := by rw [← hP'.out, pa_at P i hin]; exact List.mem_map.2 ⟨_, List.getElem_mem _, rfl⟩
    have hxwf := Lib.hid (hmo.out.2 _ hxm)
    have hxa := Lib.hid (show attE (pa P i).1 = 0 from by
      have := (atE_ok M i ((schE_ok M hmo.out.1).2.2 i (by rw [← hPl'.out]; exact hin))).2
      rw [← hP'.out, at_at _ i (by simpa using hin)] at this
      rw [pa_at P i hin]
      simpa using this)
    clear hxm
    have hV3 := Lib.hid (show StrsAt W3 (.slice pq (pa P i).1.ws.length cq) (pa P i).1.ws from by have := V3.out i hin; rw [hq'.out] at this; exact this)
    generalize (pa P i).1 = y at *
    have hoff := Lib.hid (show OffB g5 (.slice pq y.ws.length cq) from by
      intro b o n c hn e
      obtain ⟨p2, c2, e2, _, hp2⟩ := hV3.out
      cases e2
      simp only [Value.slice.injEq] at e
      obtain ⟨e1, e2, e3⟩ := e
      obtain ⟨b3, o3, e4, hc3⟩ := hp2 (by omega)
      rw [e1] at e4
      cases e4
      have h1 := World.block_lt_of_cell? _ _ (hc3 0 (by omega))
      have h2 := hg5b.out
      have h3 := hc11.out
      have h1' : b < W3.heap.size := h1
      omega)
    have hst := Lib.hid (fun (W : World) (h : Below W9.heap.size W9 W) => show StrsAt W (.slice pq y.ws.length cq) y.ws from by
      have := D9.out.trans (h.mono D9.out.size)
      exact hV3.out.below this)
    obtain ⟨⟨hb15, z0, z1, z2, z3, z4⟩, fz⟩ := T12.out
    have f0 := fz 0
    have f1 := fz 1
    have f2 := fz 2
    have f3 := fz 3
    have f4 := fz 4
    clear fz
    go_upto_block 0 with (fail)
    go_cut [] (fun wx => ∃ (x : At) (u : Value), Hid (AtWf x) ∧ Hid (VAt wx b15 x u) ∧ Hid (StrsAt wx u x.ws) ∧ Hid (OffB g5 u) ∧ Hid (Below W9.heap.size W9 wx))
    case first =>
      have hcs : s = 0 ∨ s = 1 ∨ s = 2 ∨ s = 3 ∨ s = 4 ∨ s = 5 ∨ s = 6 := by omega
      rcases hcs with rfl | rfl | rfl | rfl | rfl | rfl | rfl
      · have c5 := Lib.hid (next_any W9.heap.size d (.slice pd l.length cd) l W12 5 (by decide) (by decide) K12.out)
        go_wp2_with fail
        refine c5.out.mono ?_; rintro e W13 ⟨z, hz, rfl, hDk, hKt⟩
        have T13 := Lib.hid (T12.out.blk (hKt.block b15 T12.out.1.1 (by have := hdd.out; omega)) hKt.size)
        have F13 := Lib.hid ((F12.out.trans (hKt.below K12.out.ge F12.out.size)).setCell (p := ⟨b15, 1, none⟩) h915.out (.int .i64 z))
        have T14 := Lib.hid (T13.out.setK (z : Int))
        have hwf := Lib.hid (show AtWf { y with k := (z : Int) } from ⟨hxwf.out.1, wf_small z (by omega) (by omega), hxwf.out.2.2⟩)
        clear hDk hKt c5 z0 z1 z2 z3 z4 f0 f1 f2 f3 f4
        obtain ⟨⟨_, z0, z1, z2, z3, z4⟩, fz⟩ := T13.out
        have f1 := fz 1
        clear fz
        go_wp2_with fail
        go_meet
        case rel => exact ⟨{ y with k := (z : Int) }, _, hwf, T14, Lib.hid (hst.out _ F13.out), hoff, F13⟩
      · have c5 := Lib.hid (drange_any W9.heap.size d (.slice pd l.length cd) l W12 K12.out)
        go_wp2_with fail
        refine c5.out.mono ?_; rintro e W13 ⟨r1, h1a, h1b, rfl, hDk, hKt⟩
        have K13 := Lib.hid hDk
        have T13 := Lib.hid (T12.out.blk (hKt.block b15 T12.out.1.1 (by have := hdd.out; omega)) hKt.size)
        have F13 := Lib.hid (F12.out.trans (hKt.below K12.out.ge F12.out.size))
        clear hDk hKt c5 z0 z1 z2 z3 z4 f0 f1 f2 f3 f4
        have c6 := Lib.hid (drange_any W9.heap.size d (.slice pd l.length cd) l W13 K13.out)
        go_wp2_with fail
        refine c6.out.mono ?_; rintro e W14 ⟨r2, h2a, h2b, rfl, hDk, hKt⟩
        have T14 := Lib.hid (T13.out.blk (hKt.block b15 T13.out.1.1 (by have := hdd.out; omega)) hKt.size)
        have F14 := Lib.hid (((F13.out.trans (hKt.below K13.out.ge F13.out.size)).setCell (p := ⟨b15, 3, none⟩) h915.out (.int .i64 r1)).setCell (p := ⟨b15, 4, none⟩) h915.out (.int .i64 r2))
        have T15 := Lib.hid (((T14.out.setLo r1)).setHi r2)
        have hwf := Lib.hid (show AtWf { y with lo := r1, hi := r2 } from ⟨hxwf.out.1, hxwf.out.2.1, wf_small r1 (by omega) (by omega), wf_small r2 (by omega) (by omega)⟩)
        clear hDk hKt c6
        obtain ⟨⟨_, z0, z1, z2, z3, z4⟩, fz⟩ := T14.out
        have f3 := fz 3
        have f4 := fz 4
        have z4' := (T14.out.setLo r1).1.2.2.2.2.2
        clear fz
        go_wp2_with fail
        go_meet
        case rel => exact ⟨{ y with lo := r1, hi := r2 }, _, hwf, T15, Lib.hid (hst.out _ F14.out), hoff, F14⟩
      · have hh := hi_bd y hxa.out
        have hSe := Lib.hid (hst.out (W12.alloc (.cells #[] 9)) (F12.out.alloc F12.out.size _))
        have z2' := (T12.out.keep (alloc_at W12 (.cells #[] 9))).1.2.2.2.1
        have h12 : y.ws.length ≤ 100 := by omega
        go_wp2_with (at_builtin; refine wpList_copy_strs (w := W12) rfl (.tmp 68) (.tmp 70) rfl _ y.ws h12 hSe.out (by first | rfl | simp) rfl ?_; intro v13 w13 hown13 hgrow13; refine Hid.out ?_)
        refine Lib.hid ?_
        have G13 := below_copy hgrow13
        have Rw := Lib.hid (hown13)
        have K13 := Lib.hid (K12.out.below G13)
        have T13 := Lib.hid (T12.out.keep G13)
        have F13 := Lib.hid (F12.out.trans (G13.mono F12.out.size))
        have hs13 := Lib.hid (show d < W12.heap.size from K12.out.lt)
        have hs1213 := Lib.hid G13.size
        clear z0 z1 z2 z3 z4 f0 f1 f2 f3 f4 z2' hown13 hgrow13 G13 hSe
        have hL := Lib.hid (srow_lit W9.heap.size w13 newWords F13.out.size (by decide))
        have G14 := alloc_at w13 (.cells (sv newWords).toArray 9)
        have K14 := Lib.hid (K13.out.below G14)
        have T14 := Lib.hid (T13.out.keep G14)
        have R14 := Lib.hid (Rw.out.keep G14)
        have F14 := Lib.hid (F13.out.trans (G14.mono F13.out.size))
        have hgN := Lib.hid (show w13.heap.size ≠ d from by have := K13.out.lt; omega)
        have hgL := Lib.hid (show w13.heap.size < (w13.alloc (.cells (sv newWords).toArray 9)).heap.size from by simp)
        clear G14
        have c5 := Lib.hid (next_any W9.heap.size d (.slice pd l.length cd) l _ 4 (by decide) (by decide) K14.out)
        go_wp2_with fail
        refine c5.out.mono ?_; rintro e W15 ⟨z, hz, rfl, hDk, hKt⟩
        have T15 := Lib.hid (T14.out.blk (hKt.block b15 T14.out.1.1 (by have := hdd.out; omega)) hKt.size)
        have F15 := Lib.hid (F14.out.trans (hKt.below K14.out.ge F14.out.size))
        have hcell : W15.cell? ⟨w13.heap.size, z, none⟩ = some (.string (tx (newWords.getD z []))) := by
          have h1 := hL.out.at
          obtain ⟨pp, cc, e1, _, e2⟩ := h1
          obtain ⟨b9, o9, e3, e4⟩ := e2 (by decide)
          cases e1
          cases e3
          have := e4 z (by show z < 4; exact hz)
          rw [Nat.zero_add] at this
          rw [World.cell?_of_block (a := ⟨w13.heap.size, z, none⟩) (hKt.block _ hgL.out hgN.out)]
          exact this
        have R15 := Lib.hid (show SRow W12.heap.size W15 v13 y.ws from own_block R14.out (fun g hg => hKt.block g (R14.out.block g hg).2 (by have := (R14.out.block g hg).1; have := hs13.out; omega)))
        have hsz15 := hKt.size
        have hwl := newWords_len z hz
        clear hDk hKt c5 T14 K14 F14 R14 hL T13 K13 F13 Rw hgN hgL
        generalize newWords.getD z [] = nw at *
        have z2 := (T15.out.keep (alloc_at W15 (.cells #[.string (tx nw)] 9))).1.2.2.2.1
        have hs12 := Lib.hid (show W12.heap.size ≤ W15.heap.size from by
          have h1 := hs1213.out
          simp at hsz15
          omega)
        go_wp2_with (at_builtin; refine wpList_append_str rfl (.tmp 71) (.tmp 77) rfl W12.heap.size v13 y.ws rfl R15.out nw rfl (by omega) hs12.out ?_; intro v16 w16 hown16 hgrow16; refine Hid.out ?_)
        refine Lib.hid ?_
        have hbv := R15.out.block
        have hb12 := hb15
        have T16 := Lib.hid (T15.out.blk (hgrow16.block b15 T15.out.1.1 (by intro e; have := (hbv b15 (by rw [← e])).1; omega)) hgrow16.size)
        have hs9 := F12.out.size
        have hs1512 := hs12.out
        have F16 := Lib.hid (F15.out.grown hgrow16 (by omega) (fun g hg => by have := (hbv g hg).1; omega))
        have R16 := Lib.hid (show SRow W12.heap.size w16 v16 (y.ws ++ [nw]) from hown16)
        obtain ⟨p16, c16, rfl, _, _⟩ := hown16.at
        have hbk := R16.out.block
        have T17 := Lib.hid (T16.out.setWs (y.ws ++ [nw]) (.slice p16 (y.ws ++ [nw]).length c16))
        have F17 := Lib.hid (F16.out.setCell (p := ⟨b15, 2, none⟩) h915.out (.slice p16 (y.ws ++ [nw]).length c16))
        have hS17 := Lib.hid (show StrsAt (w16.setCell ⟨b15, 2, none⟩ (.slice p16 (y.ws ++ [nw]).length c16)) (.slice p16 (y.ws ++ [nw]).length c16) (y.ws ++ [nw]) from
          SRow.at (show SRow W12.heap.size _ _ _ from own_other (show World.ownsRow _ _ _ _ _ _ _ from R16.out) (by intro e; have := (hbk b15 e).1; omega) _))
        have hof2 := Lib.hid (show OffB g5 (.slice p16 (y.ws ++ [nw]).length c16) from fun b o n c hn e => by
          simp only [Value.slice.injEq] at e
          obtain ⟨e1, e2, e3⟩ := e
          have h1 := (hbk b (by rw [e1]; rfl)).1
          have h2 := hg13.out
          have h3 := hW13.out
          omega)
        have hwf := Lib.hid (show AtWf { y with ws := y.ws ++ [nw] } from ⟨⟨hxwf.out.1.1, by show (y.ws ++ [nw]).length ≤ _; rw [List.length_append, List.length_singleton]; omega, fun z hz => by
          rcases List.mem_append.1 hz with h | h
          · exact hxwf.out.1.2.2 z h
          · rw [List.mem_singleton.1 h]; omega⟩, hxwf.out.2⟩)
        have e9 : (y.ws ++ [nw]).length = y.ws.length + 1 := by simp
        rw [e9] at T17 F17 hS17 hof2
        clear hown16 hgrow16 hbv hcell e9
        obtain ⟨⟨_, z0, z1, z2', z3, z4⟩, fz⟩ := T16.out
        have f2 := fz 2
        clear fz z2
        go_wp2_with fail
        go_meet
        case rel => exact ⟨{ y with ws := y.ws ++ [nw] }, _, hwf, T17, hS17, hof2, F17⟩
      · have c5 := Lib.hid (next_any W9.heap.size d (.slice pd l.length cd) l (W12.alloc (.cells (sv newNames).toArray 9)) 5 (by decide) (by decide) (K12.out.below (alloc_at _ _)))
        have hL := Lib.hid (srow_lit W9.heap.size W12 newNames F12.out.size (by decide))
        have G14 := alloc_at W12 (.cells (sv newNames).toArray 9)
        have T14 := Lib.hid (T12.out.keep G14)
        have K14 := Lib.hid (K12.out.below G14)
        have F14 := Lib.hid (F12.out.trans (G14.mono F12.out.size))
        have hgN := Lib.hid (show W12.heap.size ≠ d from by have := K12.out.lt; omega)
        have hgL := Lib.hid (show W12.heap.size < (W12.alloc (.cells (sv newNames).toArray 9)).heap.size from by simp)
        clear G14
        go_wp2_with fail
        refine c5.out.mono ?_; rintro e W15 ⟨z, hz, rfl, hDk, hKt⟩
        have T15 := Lib.hid (T14.out.blk (hKt.block b15 T14.out.1.1 (by have := hdd.out; omega)) hKt.size)
        have hcell : W15.cell? ⟨W12.heap.size, z, none⟩ = some (.string (tx (newNames.getD z []))) := by
          have h1 := hL.out.at
          obtain ⟨pp, cc, e1, _, e2⟩ := h1
          obtain ⟨b9, o9, e3, e4⟩ := e2 (by decide)
          cases e1
          cases e3
          have := e4 z (by show z < 5; exact hz)
          rw [Nat.zero_add] at this
          rw [World.cell?_of_block (a := ⟨W12.heap.size, z, none⟩) (hKt.block _ hgL.out hgN.out)]
          exact this
        have hwl := newNames_len z hz
        have F15' := F14.out.trans (hKt.below K14.out.ge F14.out.size)
        generalize newNames.getD z [] = nw at *
        have F15 := Lib.hid (F15'.setCell (p := ⟨b15, 0, none⟩) h915.out (.string (tx nw)))
        have T16 := Lib.hid (T15.out.setNm nw)
        have hwf := Lib.hid (show AtWf { y with nm := nw } from ⟨⟨by show nw.length ≤ _; omega, hxwf.out.1.2⟩, hxwf.out.2⟩)
        clear hDk hKt c5 z0 z1 z2 z3 z4 f0 f1 f2 f3 f4 T14 K14 F14 hL hgN hgL F15'
        obtain ⟨⟨_, z0, z1, z2, z3, z4⟩, fz⟩ := T15.out
        have f0 := fz 0
        clear fz
        have hz5 : (z : Int) < 5 := by omega
        go_wp2_with fail
        go_meet
        case rel => exact ⟨{ y with nm := nw }, _, hwf, T16, Lib.hid (hst.out _ F15.out), hoff, F15⟩
      · have hh := hi_bd y hxa.out
        have e1 : IntKind.i64.wrap (y.hi + 1000000000) = y.hi + 1000000000 := IntWalk.i64_in _ (by omega)
        have F14 := Lib.hid (F12.out.setCell (p := ⟨b15, 4, none⟩) h915.out (.int .i64 (y.hi + 1000000000)))
        have T15 := Lib.hid (T12.out.setHi (y.hi + 1000000000))
        have hwf := Lib.hid (show AtWf { y with hi := y.hi + 1000000000 } from ⟨hxwf.out.1, hxwf.out.2.1, hxwf.out.2.2.1, wf_small (y.hi + 1000000000) (by omega) (by omega)⟩)
        go_wp2_with fail
        go_meet
        case rel => exact ⟨{ y with hi := y.hi + 1000000000 }, _, hwf, T15, Lib.hid (hst.out _ F14.out), hoff, F14⟩
      · have hh := hi_bd y hxa.out
        obtain ⟨m, hm, hm1⟩ : ∃ m : Nat, min (y.ws.length : Int) 1 = m ∧ m ≤ y.ws.length := ⟨min y.ws.length 1, by omega, by omega⟩
        have hmq : m ≤ cq := by omega
        have F14 := Lib.hid (F12.out.setCell (p := ⟨b15, 2, none⟩) h915.out (.slice pq m cq))
        have T15 := Lib.hid (T12.out.setWs (y.ws.take m) (.slice pq m cq))
        have hwf := Lib.hid (show AtWf { y with ws := y.ws.take m } from ⟨⟨hxwf.out.1.1, by show (y.ws.take m).length ≤ _; rw [List.length_take]; omega, fun z hz => hxwf.out.1.2.2 z (List.mem_of_mem_take hz)⟩, hxwf.out.2⟩)
        have hof2 := Lib.hid (show OffB g5 (.slice pq m cq) from fun b o n c hn e => by
          simp only [Value.slice.injEq] at e
          obtain ⟨e1, e2, e3⟩ := e
          exact hoff.out b o y.ws.length cq (by omega) (by rw [e1]))
        have hS2 := Lib.hid ((hst.out _ F14.out).take m hm1)
        have hm' := Lib.hid hm1
        go_wp2_with fail
        go_meet
        case rel => exact ⟨{ y with ws := y.ws.take m }, _, hwf, T15, hS2, hof2, F14⟩
      · have F14 := Lib.hid ((F12.out.setCell (p := ⟨b15, 3, none⟩) h915.out (.int .i64 y.hi)).setCell (p := ⟨b15, 4, none⟩) h915.out (.int .i64 y.lo))
        have T15 := Lib.hid ((T12.out.setLo y.hi).setHi y.lo)
        have hwf := Lib.hid (show AtWf { y with lo := y.hi, hi := y.lo } from ⟨hxwf.out.1, hxwf.out.2.1, hxwf.out.2.2.2, hxwf.out.2.2.1⟩)
        have z4' := (T12.out.setLo y.hi).1.2.2.2.2.2
        go_wp2_with fail
        go_meet
        case rel => exact ⟨{ y with lo := y.hi, hi := y.lo }, _, hwf, T15, Lib.hid (hst.out _ F14.out), hoff, F14⟩
    case rest =>
      obtain ⟨x2, u2, hwf2, hV2, hS2, hof2, hF2⟩ := hcut
      have Rw := Lib.hid (R9.out.below hF2.out (fun g hg => (R9.out.block g hg).2))
      have Uw := Lib.hid (hU.out.below hF2.out (fun g hg => (hU.out.block g hg).2))
      have Cw := Lib.hid (C9.out.keep hF2.out)
      have Nw := Lib.hid (N9.out.keep hF2.out)
      have Dw := Lib.hid (D9.out.trans (hF2.out.mono D9.out.size))
      obtain ⟨pu2, cu2, hu2, _, _⟩ := hS2.out
      subst hu2
      obtain ⟨⟨_, q0, q1, q2, q3, q4⟩, _⟩ := hV2.out
      obtain ⟨y0, y1, y2, y3, y4⟩ := Rw.out.cells i hin
      have f0 := Rw.out.frozen (i * 5)
      have f1 := Rw.out.frozen (i * 5 + 1)
      have f2 := Rw.out.frozen (i * 5 + 2)
      have f3 := Rw.out.frozen (i * 5 + 3)
      have f4 := Rw.out.frozen (i * 5 + 4)
      have z1 : ∀ v, (wc.setCell ⟨g5, i * 5, none⟩ v).cell? ⟨g5, i * 5 + 1, none⟩ = some (.int .i64 (pa P i).1.k) := fun v => by
        rw [World.cell?_setCell_other _ _ _ _ (by intro e; simp only [Addr.mk.injEq] at e; omega)]; exact y1
      have z2 : ∀ v v2, ((wc.setCell ⟨g5, i * 5, none⟩ v).setCell ⟨g5, i * 5 + 1, none⟩ v2).cell? ⟨g5, i * 5 + 2, none⟩ = some (pa P i).2 := fun v v2 => by
        rw [World.cell?_setCell_other _ _ _ _ (by intro e; simp only [Addr.mk.injEq] at e; omega), World.cell?_setCell_other _ _ _ _ (by intro e; simp only [Addr.mk.injEq] at e; omega)]; exact y2
      have z3 : ∀ v v2 v3, (((wc.setCell ⟨g5, i * 5, none⟩ v).setCell ⟨g5, i * 5 + 1, none⟩ v2).setCell ⟨g5, i * 5 + 2, none⟩ v3).cell? ⟨g5, i * 5 + 3, none⟩ = some (.int .i64 (pa P i).1.lo) := fun v v2 v3 => by
        rw [World.cell?_setCell_other _ _ _ _ (by intro e; simp only [Addr.mk.injEq] at e; omega), World.cell?_setCell_other _ _ _ _ (by intro e; simp only [Addr.mk.injEq] at e; omega), World.cell?_setCell_other _ _ _ _ (by intro e; simp only [Addr.mk.injEq] at e; omega)]; exact y3
      have z4 : ∀ v v2 v3 v4, ((((wc.setCell ⟨g5, i * 5, none⟩ v).setCell ⟨g5, i * 5 + 1, none⟩ v2).setCell ⟨g5, i * 5 + 2, none⟩ v3).setCell ⟨g5, i * 5 + 3, none⟩ v4).cell? ⟨g5, i * 5 + 4, none⟩ = some (.int .i64 (pa P i).1.hi) := fun v v2 v3 v4 => by
        rw [World.cell?_setCell_other _ _ _ _ (by intro e; simp only [Addr.mk.injEq] at e; omega), World.cell?_setCell_other _ _ _ _ (by intro e; simp only [Addr.mk.injEq] at e; omega), World.cell?_setCell_other _ _ _ _ (by intro e; simp only [Addr.mk.injEq] at e; omega), World.cell?_setCell_other _ _ _ _ (by intro e; simp only [Addr.mk.injEq] at e; omega)]; exact y4
      have x11 := Cw.out.2
      have n58 := Lib.hid (show g8 ≠ g5 ∧ b11 ≠ g5 ∧ b13 ≠ g5 ∧ W3.heap.size ≤ g5 from by
        have h1 := hg5b.out; have h2 := hg13.out; have h3 := hg8h.out; have h4 := hc11.out
        refine ⟨by omega, by omega, by omega, by omega⟩)
      have D26 := Lib.hid (put5_below (k := i) Dw.out n58.out.2.2.2 (x2, .slice pu2 x2.ws.length cu2))
      have R26 := Lib.hid (Rw.out.setAll i hin (x2, .slice pu2 x2.ws.length cu2))
      have U26 := Lib.hid (show ARow W7.heap.size (put5 wc g5 i (x2, .slice pu2 x2.ws.length cu2)) (.slice (some ⟨g8, 0, none⟩) P.length cc8) (P.set i (x, .slice pua x.ws.length cua)) from put5_other Uw.out (by intro e; have e2 : g8 = g5 := Option.some.inj e; exact n58.out.1 e2) _)
      have C26 := Lib.hid (show OAt (put5 wc g5 i (x2, .slice pu2 x2.ws.length cu2)) b11 (.slice (some ⟨g5, 0, none⟩) P.length cc5) from ⟨by rw [put5_size]; exact Cw.out.1, by rw [put5_cell n58.out.2.1]; exact Cw.out.2⟩)
      have N26 := Lib.hid (show OAt (put5 wc g5 i (x2, .slice pu2 x2.ws.length cu2)) b13 (.slice (some ⟨g8, 0, none⟩) P.length cc8) from ⟨by rw [put5_size]; exact Nw.out.1, by rw [put5_cell n58.out.2.2.1]; exact Nw.out.2⟩)
      have S26 := Lib.hid (hS2.out.put5 hof2.out i (x2, .slice pu2 x2.ws.length cu2))
      go_upto_region 27 with fail
      refine (show Code.wp _ _ _ _ (put5 wc g5 i (x2, .slice pu2 x2.ws.length cu2)) from ?_)
      clear q0 q1 q2 q3 q4 y0 y1 y2 y3 y4 f0 f1 f2 f3 f4 z1 z2 z3 z4 x11
      generalize put5 wc g5 i (x2, .slice pu2 x2.ws.length cu2) = W26 at *
      have O26 := Lib.hid (O3.out.keep D26.out)
      have A26 := Lib.hid (A3.out.below D26.out)
      have E26 := Lib.hid (E3.out.keep D26.out)
      have B26 := Lib.hid (trans_b B3.out D26.out)
      have T26 := Lib.hid (R26.out.at (((V3.out.below D26.out).set i (x2, .slice pu2 x2.ws.length cu2) S26.out)))
      have G26 := Lib.hid (U26.out.at (((V3.out.below D26.out).set i (x, .slice pua x.ws.length cua) (S3.out.below D26.out))))
      have w1 := Lib.hid (wf_set P i (x2, .slice pu2 x2.ws.length cu2) (by rw [hP'.out]; exact hmo.out.2) hwf2.out)
      have w2 := Lib.hid (wf_set P i (x, .slice pua x.ws.length cua) (by rw [hP'.out]; exact hmo.out.2) hwx'.out)
      have l1 : ((P.set i (x2, .slice pu2 x2.ws.length cu2)).map (·.1)).length ≤ 9223372036854775807 := by simp; omega
      have l2 : ((P.set i (x, .slice pua x.ws.length cua)).map (·.1)).length ≤ 9223372036854775807 := by simp; omega
      have cS1 := Lib.hid (fun (W : World) (h : W.cell? ⟨b0, 0, none⟩ = some (.slice p nL c) ∧ W.cell? ⟨b11, 0, none⟩ = some (.slice (some ⟨g5, 0, none⟩) P.length cc5) ∧ W.cell? ⟨b13, 0, none⟩ = some (.slice (some ⟨g8, 0, none⟩) P.length cc8) ∧ Below W26.heap.size W26 W) => c1.out W (A26.out.below h.2.2.2))
      have cS2 := Lib.hid (fun (W : World) (h : W.cell? ⟨b0, 0, none⟩ = some (.slice p nL c) ∧ W.cell? ⟨b11, 0, none⟩ = some (.slice (some ⟨g5, 0, none⟩) P.length cc5) ∧ W.cell? ⟨b13, 0, none⟩ = some (.slice (some ⟨g8, 0, none⟩) P.length cc8) ∧ Below W26.heap.size W26 W) => c2.out W (A26.out.below h.2.2.2))
      have cT1 := Lib.hid (fun (W : World) (h : W.cell? ⟨b0, 0, none⟩ = some (.slice p nL c) ∧ W.cell? ⟨b11, 0, none⟩ = some (.slice (some ⟨g5, 0, none⟩) P.length cc5) ∧ W.cell? ⟨b13, 0, none⟩ = some (.slice (some ⟨g8, 0, none⟩) P.length cc8) ∧ Below W26.heap.size W26 W) => pval_any (.slice (some ⟨g5, 0, none⟩) P.length cc5) W _ (T26.out.below h.2.2.2) l1 w1.out)
      have cT2 := Lib.hid (fun (W : World) (h : W.cell? ⟨b0, 0, none⟩ = some (.slice p nL c) ∧ W.cell? ⟨b11, 0, none⟩ = some (.slice (some ⟨g5, 0, none⟩) P.length cc5) ∧ W.cell? ⟨b13, 0, none⟩ = some (.slice (some ⟨g8, 0, none⟩) P.length cc8) ∧ Below W26.heap.size W26 W) => rschema_any (.slice (some ⟨g5, 0, none⟩) P.length cc5) W _ (T26.out.below h.2.2.2) l1 w1.out)
      have cU1 := Lib.hid (fun (W : World) (h : W.cell? ⟨b0, 0, none⟩ = some (.slice p nL c) ∧ W.cell? ⟨b11, 0, none⟩ = some (.slice (some ⟨g5, 0, none⟩) P.length cc5) ∧ W.cell? ⟨b13, 0, none⟩ = some (.slice (some ⟨g8, 0, none⟩) P.length cc8) ∧ Below W26.heap.size W26 W) => pval_any (.slice (some ⟨g8, 0, none⟩) P.length cc8) W _ (G26.out.below h.2.2.2) l2 w2.out)
      have cU2 := Lib.hid (fun (W : World) (h : W.cell? ⟨b0, 0, none⟩ = some (.slice p nL c) ∧ W.cell? ⟨b11, 0, none⟩ = some (.slice (some ⟨g5, 0, none⟩) P.length cc5) ∧ W.cell? ⟨b13, 0, none⟩ = some (.slice (some ⟨g8, 0, none⟩) P.length cc8) ∧ Below W26.heap.size W26 W) => rschema_any (.slice (some ⟨g8, 0, none⟩) P.length cc8) W _ (G26.out.below h.2.2.2) l2 w2.out)
      have cA := Lib.hid (fun (W : World) (h : W.cell? ⟨b0, 0, none⟩ = some (.slice p nL c) ∧ W.cell? ⟨b11, 0, none⟩ = some (.slice (some ⟨g5, 0, none⟩) P.length cc5) ∧ W.cell? ⟨b13, 0, none⟩ = some (.slice (some ⟨g8, 0, none⟩) P.length cc8) ∧ Below W26.heap.size W26 W) => awake_of W (E26.out.keep h.2.2.2))
      generalize schE ((P.set i (x2, .slice pu2 x2.ws.length cu2)).map (·.1)) = E1 at *
      generalize schE ((P.set i (x, .slice pua x.ws.length cua)).map (·.1)) = E2 at *
      have s0 := O26.out.2
      have s1 := C26.out.2
      have s3 := N26.out.2
      have hr0 : (R == R) = true := by simp
      have hr1 : (E1 == E1) = true := by simp
      have hr2 : (E2 == E2) = true := by simp
      clear l1 l2 w1 w2 T26 G26 E26 A26 R26 U26 S26 hV2 hS2 hof2 hF2 Rw Uw Cw Nw Dw hwf2 D26 n58 hP6 hM1 hM6 hl hin hlbs c1 c2
      go_region_held3 (fun w' => w'.cell? ⟨b0, 0, none⟩ = some (.slice p nL c) ∧ w'.cell? ⟨b11, 0, none⟩ = some (.slice (some ⟨g5, 0, none⟩) P.length cc5) ∧ w'.cell? ⟨b13, 0, none⟩ = some (.slice (some ⟨g8, 0, none⟩) P.length cc8) ∧ Below W26.heap.size W26 w')
        (first | exact ⟨s0, s1, s3, below_drewN (Below.refl _ _) 1⟩ | exact keep3 O26.out C26.out N26.out (by assumption) hBq)
        (first
          | (go_at_call 12; (with_reducible refine (cS1.out _ (by assumption)).mono ?_); rintro e w' ⟨rfl, hBq⟩)
          | (go_at_call 12; (with_reducible refine (cT1.out _ (by assumption)).mono ?_); rintro e w' ⟨rfl, hBq⟩)
          | (go_at_call 12; (with_reducible refine (cU1.out _ (by assumption)).mono ?_); rintro e w' ⟨rfl, hBq⟩)
          | (go_at_call 13; (with_reducible refine (cS2.out _ (by assumption)).mono ?_); rintro e w' ⟨rfl, hBq⟩)
          | (go_at_call 13; (with_reducible refine (cT2.out _ (by assumption)).mono ?_); rintro e w' ⟨rfl, hBq⟩)
          | (go_at_call 13; (with_reducible refine (cU2.out _ (by assumption)).mono ?_); rintro e w' ⟨rfl, hBq⟩)
          | (go_at_call 6; (with_reducible refine (cA.out _ (by assumption)).mono ?_); rintro e w' ⟨rfl, hBq⟩))
      rename_i hh
      have hB9 := Lib.hid (trans_b B26.out hh.2.2.2)
      clear hh
      go_wp2_with fail
      go_ret
      exact ⟨rfl, hB9.out⟩
end Go.Proofs.YtdehldcgakdobaaDoor.Sc
