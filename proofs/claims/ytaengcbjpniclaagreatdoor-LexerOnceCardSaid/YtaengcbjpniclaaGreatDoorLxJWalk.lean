/- LexerJoin's walk. -/
import Derived.Test.YtaengcbjpniclaaGreatDoorLxStore
import Derived.Test.YtaengcbjpniclaaGreatDoorLxToks
import Derived.Test.YtaengcbjpniclaaGreatDoorLxRJoin
import Derived.Test.YtaengcbjpniclaaGreatDoorLxAwake
namespace Go.Proofs.YtaengcbjpniclaaGreatDoor.Lx
open Go.RowKit Go.Lib Go.Proofs.YtaengcbjpniclaaGreatDoor.Bas Go.Proofs.YtaengcbjpniclaaGreatDoor.Cal Go.Proofs.YtaengcbjpniclaaGreatDoor.Spl Go.Proofs.YtaengcbjpniclaaGreatDoor.Dk
set_option linter.unusedVariables false

theorem val_len2 (L : List Tk) (hv : ∀ t ∈ L, wrE t = 0) : ∀ t ∈ L, t.t.length ≤ 9223372036854775807 := by
  intro t ht
  rcases wrE_zero t (hv t ht) with ⟨_, _, h⟩ | ⟨_, h, _⟩ | ⟨_, h, _⟩ | ⟨_, _, h⟩
  · have := (of_decide_eq_true h).2.1; omega
  · rw [h]; simp
  · rw [h]; simp
  · have := markB_le h; omega
/-- What Join is asked behind the store. -/
theorem len_set (L : List Tk) (x y : Tk) (k : Nat) (h : ∀ t ∈ L, t.t.length ≤ 9223372036854775807) (hx : x.t.length ≤ 9223372036854775807) (hy : y.t.length ≤ 9223372036854775807) : ∀ t ∈ (L ++ [y]).set k x, t.t.length ≤ 9223372036854775807 := by
  intro t ht
  rcases List.mem_or_eq_of_mem_set ht with ht | rfl
  · rcases List.mem_append.1 ht with ht | ht
    · exact h t ht
    · simp only [List.mem_singleton] at ht; rw [ht]; exact hy
  · exact hx
set_option maxRecDepth 8000 in
set_option maxHeartbeats 16000000 in
theorem joinW (vt : Value) (lt : List Tk) (v : Value) (l : List Int) (a : Int) (x : Tk) (w : World) (hE : Env w) (hT : TksAt w vt lt) (hlt : lt.length ≤ 9223372036854775807) (htk : ∀ t ∈ lt, t.t.length ≤ 9223372036854775807) (hI : IntsAt w v l) (hl : l.length ≤ 9223372036854775807) (hw : ∀ x ∈ l, -9223372036854775808 ≤ x ∧ x ≤ 9223372036854775807)
    (ha : -9223372036854775808 ≤ a ∧ a ≤ 9223372036854775807) (hx : x.t.length ≤ 9223372036854775807) :
    Calls Tryz.prog 3 #[vt, v, .int .i64 a, .agg #[.int .i64 x.k, .string (tx x.t), .int .i64 x.n, .int .i64 x.p]] w (BoolBe true w) := by
  have hal := below_box w (.cells #[.int .i64 x.k, .string (tx x.t), .int .i64 x.n, .int .i64 x.p] 25)
  have B0 := Lib.hid hal
  have E0 := Lib.hid (hE.keep hal)
  have X0 := Lib.hid (TkAt.new w x)
  have T0 := Lib.hid (hT.below hal)
  have I0 := Lib.hid (fun W (hb : Below w.heap.size w W) => toks_any v l W (hI.below hb) hl hw)
  have cA := Lib.hid awake_any
  have hw' := Lib.hid hw
  obtain ⟨pt, ct, rfl, _, _⟩ := hT
  obtain ⟨nt, hnt⟩ : ∃ n, lt.length = n := ⟨_, rfl⟩
  have hnt' := Lib.hid hnt
  have htk' := Lib.hid htk
  have hx' := Lib.hid hx
  rw [hnt] at hlt T0 ⊢
  clear hE hI hl hw hal hnt htk hx
  generalize hW0 : w.alloc (.cells #[.int .i64 x.k, .string (tx x.t), .int .i64 x.n, .int .i64 x.p] 25) = W0 at *
  by_cases h100 : 100 < nt
  · have u1 : decide ((100 : Int) < (nt : Int)) = true := by simp; omega
    have u2 : decide (100 < nt) = true := by simp; omega
    go_enter Tryz.func3, Tryz.ntmps3
    go_upto_region 2 with fail
    go_wp2_with fail
    refine (cA.out _ E0.out).mono ?_; rintro e W5 ⟨rfl, hB5⟩
    have B5 := Lib.hid (trans_at B0.out hB5)
    clear hB5
    go_wp2_with fail
    go_ret
    exact ⟨rfl, B5.out⟩
  · have u1 : decide ((100 : Int) < (nt : Int)) = false := by simp; omega
    have u2 : decide (100 < nt) = false := by simp; omega
    have c1 := Lib.hid (join_any _ lt W0 E0.out T0.out htk'.out (by rw [hnt'.out]; exact hlt))
    go_enter Tryz.func3, Tryz.ntmps3
    go_upto_region 3 with fail
    clear hW0 u1 u2 h100
    go_wp2_with fail
    refine c1.out.mono ?_; rintro e W1 ⟨rfl, hB1⟩
    have B1 := Lib.hid (trans_at B0.out hB1)
    have E1 := Lib.hid (E0.out.keep hB1)
    have T1 := Lib.hid (T0.out.below hB1)
    have X1 := Lib.hid (X0.out.keep hB1)
    have c2 := Lib.hid (rjoin_any _ lt W1 T1.out htk'.out (by rw [hnt'.out]; exact hlt))
    clear hB1 c1 B0 E0 T0 X0
    generalize joinV lt = J1 at *
    go_wp2_with fail
    refine c2.out.mono ?_; rintro e W2 ⟨rfl, hB2⟩
    have B2 := Lib.hid (trans_at B1.out hB2)
    have E2 := Lib.hid (E1.out.keep hB2)
    have X2 := Lib.hid (X1.out.keep hB2)
    have c3 := Lib.hid (I0.out W2 B2.out)
    clear hB2 c2 B1 E1 T1 X1 I0
    go_wp2_with fail
    refine c3.out.mono ?_; rintro e W3 ⟨u, L, rfl, hv, hL, hR, hB3⟩
    have hv' := Lib.hid (val_len2 L hv)
    have R3 := Lib.hid hR
    have C3 := Lib.hid hB3
    obtain ⟨pu, cu, hu, _, _⟩ := hR.at
    subst hu
    have c4 := Lib.hid (join_any _ L W3 (E2.out.keep hB3) hR.at hv'.out (by omega))
    clear hR hB3 c3 hv
    go_wp2_with fail
    refine c4.out.mono ?_; rintro e W4 ⟨rfl, hB4⟩
    have R4 := Lib.hid (R3.out.keep hB4)
    have C4 := Lib.hid (trans_at C3.out hB4)
    have c5 := Lib.hid (rjoin_any _ L W4 R4.out.at hv'.out (by omega))
    clear hB4 c4 R3 C3
    generalize joinV L = J2 at *
    go_wp2_with fail
    refine c5.out.mono ?_; rintro e W5 ⟨rfl, hB5⟩
    have R5 := Lib.hid (R4.out.keep hB5)
    have C5 := Lib.hid (trans_at C4.out hB5)
    have hs5 := C5.out.size
    clear hB5 c5 R4 C4
    go_upto_region 11 with (at_builtin; refine wpList_append_tokens rfl (.tmp 62) (.tmp 64) rfl W2.heap.size _ L rfl (R5.out.alloc (.cells #[.int .i64 4, .string { data := #[59] }, .int .i64 0, .int .i64 0] 25)) _ [⟨4, [59], 0, 0⟩] rfl (token_one _ ⟨4, [59], 0, 0⟩) (by simp; omega) (by simp; omega) ?_; intro v' W6 hown hgrow)
    have C6 := Lib.hid ((C5.out.alloc hs5 (.cells #[.int .i64 4, .string { data := #[59] }, .int .i64 0, .int .i64 0] 25)).grown hgrow (by simp; omega) (fun g e => (R5.out.block g e).1))
    have hls := Lib.hid (len_set L x ⟨4, [59], 0, 0⟩)
    obtain ⟨n, hn⟩ : ∃ n, (L ++ [(⟨4, [59], 0, 0⟩ : Tk)]).length = n := ⟨_, rfl⟩
    have hn31 : n ≤ 31 := by rw [← hn]; simp; omega
    have hn0 : 0 < n := by rw [← hn]; simp
    have hmem := Lib.hid (fun k => hls.out k hv'.out hx'.out (show [(59 : UInt8)].length ≤ 9223372036854775807 by decide))
    obtain ⟨g1, q1, rfl, hg1, hg1s, hcell⟩ := trow_shape hown (by rw [hn]; exact hn0)
    generalize L ++ [(⟨4, [59], 0, 0⟩ : Tk)] = M at *
    rw [hn] at hcell hown ⊢
    have cW := Lib.hid (fun W => within_any a n W ha.1 ha.2 (by omega) (by omega))
    obtain ⟨kw1, kw2⟩ := wi_bd a n (by omega)
    obtain ⟨k, hk⟩ : ∃ k : Nat, wi a n = k := ⟨(wi a n).toNat, by omega⟩
    rw [hk] at cW kw1 kw2
    have hkn : k < n := by omega
    obtain ⟨y0, y1, y2, y3⟩ := hcell k hkn
    have f0 := hown.frozen (k * 4)
    have f1 := hown.frozen (k * 4 + 1)
    have f2 := hown.frozen (k * 4 + 2)
    have f3 := hown.frozen (k * 4 + 3)
    have hst := Lib.hid (hown.setAll k (by rw [hn]; exact hkn) x)
    obtain ⟨_, ⟨x0, x1, x2, x3⟩, _⟩ := X2.out.keep C6.out
    have z1 : ∀ v, (W6.setCell ⟨g1, k * 4, none⟩ v).cell? ⟨g1, k * 4 + 1, none⟩ = some (.string (tx (tk M k).t)) := fun v => by
      rw [World.cell?_setCell_other _ _ _ _ (by intro e; simp only [Addr.mk.injEq] at e; omega)]; exact y1
    have z2 : ∀ v v2, ((W6.setCell ⟨g1, k * 4, none⟩ v).setCell ⟨g1, k * 4 + 1, none⟩ v2).cell? ⟨g1, k * 4 + 2, none⟩ = some (.int .i64 (tk M k).n) := fun v v2 => by
      rw [World.cell?_setCell_other _ _ _ _ (by intro e; simp only [Addr.mk.injEq] at e; omega), World.cell?_setCell_other _ _ _ _ (by intro e; simp only [Addr.mk.injEq] at e; omega)]; exact y2
    have z3 : ∀ v v2 v3, (((W6.setCell ⟨g1, k * 4, none⟩ v).setCell ⟨g1, k * 4 + 1, none⟩ v2).setCell ⟨g1, k * 4 + 2, none⟩ v3).cell? ⟨g1, k * 4 + 3, none⟩ = some (.int .i64 (tk M k).p) := fun v v2 v3 => by
      rw [World.cell?_setCell_other _ _ _ _ (by intro e; simp only [Addr.mk.injEq] at e; omega), World.cell?_setCell_other _ _ _ _ (by intro e; simp only [Addr.mk.injEq] at e; omega), World.cell?_setCell_other _ _ _ _ (by intro e; simp only [Addr.mk.injEq] at e; omega)]; exact y3
    have C7 := Lib.hid (show Below W2.heap.size W2 (put4 W6 g1 k x) from ((((C6.out.setCell (p := ⟨g1, k * 4, none⟩) hg1 (.int .i64 x.k)).setCell (p := ⟨g1, k * 4 + 1, none⟩) hg1 (.string (tx x.t))).setCell (p := ⟨g1, k * 4 + 2, none⟩) hg1 (.int .i64 x.n)).setCell (p := ⟨g1, k * 4 + 3, none⟩) hg1 (.int .i64 x.p)))
    have hn' := Lib.hid hn
    clear hgrow hown hcell C6 C5 hls hn hk kw1 R5 X2 ha hx'
    generalize (tk M k).k = m0 at *
    generalize (tk M k).t = m1 at *
    generalize (tk M k).n = m2 at *
    generalize (tk M k).p = m3 at *
    go_cut [] (fun wx => ∃ nd, wx = (put4 W6 g1 k x).drewN nd)
    case first =>
      go_region_with (refine (cW.out _).mono ?_; rintro e w' ⟨rfl, rfl⟩)
      all_goals
        go_wp2_with fail
        go_meet
        case rel => exact ⟨1, rfl⟩
    case rest =>
      obtain ⟨nd, rfl⟩ := hcut
      have hl7 : (M.set k x).length = n := by rw [List.length_set]; exact hn'.out
      have R7 := Lib.hid (show TRow W2.heap.size ((put4 W6 g1 k x).drewN nd) _ _ from hst.out)
      have C8 := Lib.hid (below_drewN C7.out nd)
      have hm7 := Lib.hid (hmem.out k)
      clear C7 hst y0 y1 y2 y3 z1 z2 z3 f0 f1 f2 f3 x0 x1 x2 x3 hmem
      generalize (put4 W6 g1 k x).drewN nd = W7 at *
      generalize M.set k x = M7 at *
      have E7 := Lib.hid (E2.out.keep C8.out)
      have B7 := Lib.hid (trans_at B2.out C8.out)
      have c6 := Lib.hid (join_any _ M7 W7 E7.out R7.out.at hm7.out (by omega))
      clear B2 E2 C8
      go_wp2_with fail
      refine c6.out.mono ?_; rintro e W8 ⟨rfl, hB8⟩
      have R8 := Lib.hid (R7.out.keep hB8)
      have E8 := Lib.hid (E7.out.keep hB8)
      have B8 := Lib.hid (trans_at B7.out hB8)
      have c7 := Lib.hid (rjoin_any _ M7 W8 R8.out.at hm7.out (by omega))
      clear hB8 c6 B7 E7 R7
      generalize joinV M7 = J7 at *
      go_wp2_with fail
      refine c7.out.mono ?_; rintro e W9 ⟨rfl, hB9⟩
      have E9 := Lib.hid (E8.out.keep hB9)
      have B9 := Lib.hid (trans_at B8.out hB9)
      clear hB9 c7 B8 E8 R8
      go_wp2_with fail
      refine (cA.out _ E9.out).mono ?_; rintro e W10 ⟨rfl, hB10⟩
      have B10 := Lib.hid (trans_at B9.out hB10)
      clear hB10
      go_wp2_with fail
      go_ret
      exact ⟨rfl, B10.out⟩
theorem join_walk (vt : Value) (lt : List Tk) (v : Value) (l : List Int) (a : Int) (x : Tk) (w : World) (hE : Env w) (hT : TksAt w vt lt) (hlt : lt.length ≤ 9223372036854775807) (htk : ∀ t ∈ lt, TkWf t) (hI : IntsAt w v l) (hl : l.length ≤ 9223372036854775807) (hw : ∀ x ∈ l, (Lit.int .i64 x).wf = true)
    (ha : (Lit.int .i64 a).wf = true) (hx : TkWf x) :
    Calls Tryz.prog 3 #[vt, v, .int .i64 a, .agg #[.int .i64 x.k, .string (tx x.t), .int .i64 x.n, .int .i64 x.p]] w (BoolBe true w) :=
  joinW vt lt v l a x w hE hT hlt (fun t ht => (htk t ht).2) hI hl (fun x hx => Go.bounds_i64 (hw x hx)) (Go.bounds_i64 ha) hx.2
end Go.Proofs.YtaengcbjpniclaaGreatDoor.Lx
