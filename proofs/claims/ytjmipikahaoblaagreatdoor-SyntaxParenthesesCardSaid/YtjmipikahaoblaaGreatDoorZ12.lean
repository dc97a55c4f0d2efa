/- The maker's expressions of a depth up to 5; what the statements make. Names: the program's (sorted and compacted by the library) and the reference's; the statement. Names of expressions: the statement. The reference's letters, digits, words, names and marks. The reference's names, distinct, far. -/
import Derived.Test.YtjmipikahaoblaaGreatDoorZ11
import Derived.StillTailTactics
import Derived.Test.YtjmipikahaoblaaGreatDoorZ04
import Derived.Test.YtjmipikahaoblaaGreatDoorZ01
import Derived.Test.YtjmipikahaoblaaGreatDoorZ05
import Derived.Test.YtjmipikahaoblaaGreatDoorZ08
import Derived.Sort.OwnSorted
import Derived.Deep.RegionHeld3
namespace Go.Proofs.YtjmipikahaoblaaGreatDoor.Syn
open Go.RowKit Go.Lib Go.Proofs.YtjmipikahaoblaaGreatDoor.Bas Go.Proofs.YtjmipikahaoblaaGreatDoor.Cal Go.Proofs.YtjmipikahaoblaaGreatDoor.Lx Go.Proofs.YtjmipikahaoblaaGreatDoor.Sc Go.Proofs.YtjmipikahaoblaaGreatDoor.Dk
set_option linter.unusedVariables false

theorem wf_in (n : Int) (h1 : -9223372036854775808 ≤ n) (h2 : n ≤ 9223372036854775807) : (Lit.int .i64 n).wf = true := WalkArith.wf_i64 (by omega)
theorem node_ndwf (d : Nd) (n : Nat) (h : nodeB d n = true) : NdWf d := by
  unfold nodeB at h
  simp only [Bool.and_eq_true] at h
  obtain ⟨⟨⟨⟨ho, hn⟩, hw⟩, hl⟩, _⟩ := h
  have ho' := of_decide_eq_true ho
  have n1 : d.nm.length ≤ 9223372036854775807 := by
    split at hn
    · have := name_len hn; omega
    · rw [of_decide_eq_true hn]; simp
  have w1 : WsWf d.ws := by
    split at hw
    · simp only [Bool.and_eq_true, decide_eq_true_eq] at hw
      refine ⟨by omega, fun x hx => ?_⟩
      have := name_len (names_all _ hw.1.2 x hx)
      omega
    · rw [of_decide_eq_true hw]; exact ⟨by simp, fun x hx => by cases hx⟩
  have l1 : (-1000000000 ≤ d.lo ∧ d.lo ≤ 1000000000) ∧ (-1000000000 ≤ d.hi ∧ d.hi ≤ 1000000000) := by
    split at hl
    · simp only [Bool.and_eq_true, Bool.not_eq_true'] at hl
      exact ⟨far_bd hl.1.1, far_bd hl.1.2⟩
    · have := of_decide_eq_true hl; omega
  exact ⟨⟨n1, w1⟩, wf_in _ (by omega) (by omega), wf_in _ (by omega) (by omega), wf_in _ (by omega) (by omega)⟩
theorem nodes_wf : ∀ F : Fo, nodesB F = true → F.sizes ≤ 1000 → FoWf F
  | .nil, _, _ => trivial
  | .cons d k r, h, hs => by
    rw [nodesB, Bool.and_eq_true, Bool.and_eq_true] at h
    rw [Fo.sizes] at hs
    have := Fo.len_le_sizes k
    exact ⟨node_ndwf d _ h.1.1, by omega, nodes_wf k h.1.2 (by omega), nodes_wf r h.2 (by omega)⟩
theorem MadeB.wf {e : Ex} (h : MadeB 5 e) : ExWf e := by
  have h1 := h.ok
  have h3 := h.sz
  have h4 : szB 5 = 121 := by decide
  unfold exB at h1
  rw [Bool.and_eq_true] at h1
  unfold Ex.size at h3
  have := Fo.len_le_sizes e.kids
  exact ⟨node_ndwf _ _ h1.1, by omega, nodes_wf _ h1.2 (by omega)⟩
theorem mkexpr_all (B d : Nat) (v : Value) (l : List Int) (sv : Value) (L : List At) (nv : Value) (ns : List (List UInt8))
    (hL : 1 ≤ L.length ∧ L.length ≤ 4) (hA : ∀ a ∈ L, AOk a) (h0 : 0 < ns.length) (hn : ns.length ≤ 1000) (hnok : ∀ x ∈ ns, nameB x = true ∧ x.length ≤ 7) : ∀ n, n ≤ 4 → Makes (n + 1) B d v l sv L nv ns := by
  intro n
  induction n with
  | zero => intro h4; exact mkexpr_step B d v l sv L nv ns 0 h4 (fun h => absurd h (by omega)) hL hA h0 hn hnok
  | succ n ih => intro h4; exact mkexpr_step B d v l sv L nv ns (n + 1) h4 (fun _ => ih (by omega)) hL hA h0 hn hnok
/-- What the statements make: a valid expression, in new blocks. -/
def MadeOut (w : World) (e : Ending) (w' : World) : Prop := ∃ (x : Ex) (q1 q2 : Option Addr) (n1 c1 n2 c2 : Nat), e = .returned (exV x.d (.slice q1 n1 c1) (.slice q2 n2 c2)) ∧ MadeB 5 x ∧ ExS (fun b => w.heap.size ≤ b) w' (exV x.d (.slice q1 n1 c1) (.slice q2 n2 c2)) x ∧ Below w.heap.size w w'
def defold : List (List UInt8) := [[100, 101, 102], [111, 108, 100]]
theorem below_setEx1 {B b : Nat} {a w : World} (h : Below B a w) (hb : B ≤ b) (d : Nd) (u v : Value) : Below B a (setEx w b d u v) := by
  unfold setEx
  exact (((((h.setCell (p := ⟨b, 0, none⟩) hb _).setCell (p := ⟨b, 1, none⟩) hb _).setCell (p := ⟨b, 2, none⟩) hb _).setCell (p := ⟨b, 3, none⟩) hb _).setCell (p := ⟨b, 4, none⟩) hb _).setCell (p := ⟨b, 5, none⟩) hb _
theorem defold_ok : ∀ x ∈ defold, nameB x = true ∧ x.length ≤ 7 := by
  intro x hx
  simp only [defold, List.mem_cons, List.not_mem_nil, or_false] at hx
  rcases hx with rfl | rfl <;> exact ⟨by decide, by decide⟩
set_option maxRecDepth 8000 in
set_option maxHeartbeats 8000000 in
theorem expr_any (v : Value) (l : List Int) (w : World) (h : IntsAt w v l) (hl : l.length ≤ 9223372036854775807) (hw : ∀ x ∈ l, -9223372036854775808 ≤ x ∧ x ≤ 9223372036854775807) : Calls Tryz.prog 12 #[v] w (MadeOut w) := by
  have al := alloc_at w zx
  have B0 := Lib.hid al
  have X0 := Lib.hid (XF.new w n0 (.slice none 0 0) (.slice none 0 0))
  have cN := Lib.hid (new_any v l (w.alloc zx) (h.below al) hl hw)
  obtain ⟨p, c, rfl, _⟩ := h
  have hsz : w.heap.size + 1 ≤ (w.alloc zx).heap.size := by rw [size_alloc1]; exact Nat.le_refl _
  clear al hw
  generalize l.length = ll at *
  go_enter Tryz.func12, Tryz.ntmps12
  go_upto_region 1 with fail
  have hzx : (Obj.cells #[.int .i64 0, .string { data := #[] }, .slice none 0 0, .int .i64 0, .int .i64 0, .slice none 0 0] 25) = zx := rfl
  first | rw [hzx] | skip
  obtain ⟨b0, hb0⟩ : ∃ b, w.heap.size = b := ⟨_, rfl⟩
  have hwb : w.heap.size ≤ b0 := by omega
  rw [hb0] at X0 hsz ⊢
  clear hb0
  generalize w.alloc zx = W0 at *
  clear hzx
  go_wp2_with fail
  refine cN.out.mono ?_; rintro e w1 ⟨d, rfl, hD, hB⟩
  have hd0 : b0 < d := by have := hD.ge; omega
  have hbd : b0 ≠ d := by omega
  have X1 := Lib.hid (X0.out.keep hB)
  have B1 := Lib.hid (B0.out.trans (hB.mono B0.out.size))
  have c6 := Lib.hid (Dk.next_any W0.heap.size d _ l w1 6 (by omega) (by omega) hD)
  clear hB cN X0 hD
  go_wp2_with fail
  refine c6.out.mono ?_; rintro e w2 ⟨x, hx, rfl, hD, hK⟩
  have X2 := Lib.hid (X1.out.kept hK hbd)
  have B2 := Lib.hid (B1.out.trans (hK.below (by omega) B1.out.size))
  have hD2 := Lib.hid hD
  have hdl : d < w2.heap.size := hD.lt
  have hxw := Sc.wi_bd (x : Int) 6 (by omega)
  obtain ⟨⟨hL1, hL4⟩, hA⟩ := made_aok (Sc.wi x 6) (by omega)
  have hA' := Lib.hid hA
  have cS := Lib.hid (madeIn_any (x : Int) w2 (by omega) (by omega))
  clear hK c6 X1 B1 hD hA hxw
  generalize madeS (Sc.wi x 6) = L at *
  go_wp2_with fail
  refine cS.out.mono ?_; rintro e w3 ⟨u, rfl, hU, hB⟩
  have al := alloc_at w3 (.cells #[.string { data := #[100, 101, 102] }, .string { data := #[111, 108, 100] }] 9)
  have hsz3 := hB.size
  have X4 := Lib.hid ((X2.out.keep hB).keep al)
  have B4 := Lib.hid ((B2.out.trans (hB.mono B2.out.size)).trans (al.mono (by have := B2.out.size; omega)))
  have D4 := Lib.hid ((hD2.out.below hB).below al)
  have U4 := Lib.hid (attsIn_frame (hU.mono (C := d + 1) (by omega)) (fun b _ hl => al.block b hl))
  have N4 := Lib.hid (strs_lit2 (d + 1) w3 defold 9 w3.heap.size rfl (by omega) 2 rfl)
  have hcell : (Obj.cells (defold.map fun s => Value.string (tx s)).toArray 9) = .cells #[.string { data := #[100, 101, 102] }, .string { data := #[111, 108, 100] }] 9 := rfl
  rw [hcell] at N4
  obtain ⟨pu, cu, rfl, _, _⟩ := id hU
  have cE := Lib.hid (mkexpr_all W0.heap.size d _ l _ L _ defold ⟨hL1, hL4⟩ hA'.out (by decide) (by decide) defold_ok 4 (by omega) _ D4.out U4.out N4.out)
  have hs5 : ((4 + 1 : Nat) : Int) = 5 := rfl
  rw [hs5] at cE
  clear hU hB al hD2 cS X2 B2 hcell U4 N4 D4
  generalize L.length = nl at *
  go_wp2_with fail
  refine cE.out.mono ?_; rintro e w5 ⟨x, q1, q2, n1, c1, n2, c2, rfl, hM, hE, hD, hK⟩
  have X5 := Lib.hid (X4.out.kept hK hbd)
  have B5 := Lib.hid (B4.out.trans (hK.below (by omega) B4.out.size))
  have hset := Lib.hid (X5.out.set x.d (.slice q1 n1 c1) (.slice q2 n2 c2))
  have hfin := Lib.hid (show MadeOut w (.returned (exV x.d (.slice q1 n1 c1) (.slice q2 n2 c2))) (setEx w5 b0 x.d (.slice q1 n1 c1) (.slice q2 n2 c2)) from
    ⟨x, q1, q2, n1, c1, n2, c2, rfl, hM, hE.frame fun g hs _ => ⟨by have hs' : (w3.alloc _).heap.size ≤ g := hs; rw [size_alloc1] at hs'; have := hdl; omega, setEx_block _ _ _ _ _ _ (by have hs' : (w3.alloc _).heap.size ≤ g := hs; rw [size_alloc1] at hs'; omega)⟩, below_setEx1 B5.out hwb _ _ _⟩)
  obtain ⟨⟨z0, y0, y1, y2, y3, y4, y5⟩, f0, f1, f2, f3, f4, f5⟩ := X5.out
  clear hE hD hK X4 B4 cE hM
  generalize x.d = dx at *
  unfold exV
  go_wp2_with fail
  refine (show bodyPost _ _ _ _ _ (setEx w5 b0 dx (.slice q1 n1 c1) (.slice q2 n2 c2)) from ?_)
  clear y0 y1 y2 y3 y4 y5 f0 f1 f2 f3 f4 f5
  generalize setEx w5 b0 dx (.slice q1 n1 c1) (.slice q2 n2 c2) = W9 at *
  obtain ⟨_, g0, g1, g2, g3, g4, g5⟩ := hset.out
  exact bodyPost_ret (v := exV dx (.slice q1 n1 c1) (.slice q2 n2 c2)) (by simp [results, Tryz.results12, go_sem, g0, g1, g2, g3, g4, g5, exV]) rfl hfin.out
end Go.Proofs.YtjmipikahaoblaaGreatDoor.Syn
namespace Go.Proofs.YtjmipikahaoblaaGreatDoor.Syn
open Go.RowKit Go.Lib Go.Proofs.YtjmipikahaoblaaGreatDoor.Bas Go.Proofs.YtjmipikahaoblaaGreatDoor.Cal Go.Proofs.YtjmipikahaoblaaGreatDoor.Lx Go.Proofs.YtjmipikahaoblaaGreatDoor.Sc Go.Proofs.YtjmipikahaoblaaGreatDoor.Dk Go.Sort
set_option linter.unusedVariables false

theorem sv_enc (l : List (List UInt8)) : sv l = l.map encStr := rfl
theorem sort_any (B g cap : Nat) (L : List (List UInt8)) (w : World) (h : SRow B w (.slice (some ⟨g, 0, none⟩) L.length cap) L) (hl : L.length ≤ 1000000) :
    Calls Tryz.prog 44 #[.slice (some ⟨g, 0, none⟩) L.length cap] w fun e w' => e = .returned (.tuple #[]) ∧ SRow B w' (.slice (some ⟨g, 0, none⟩) L.length cap) (srtL L) ∧ w.grownBy w' (some g) := by
  rcases h.2 with ⟨hv, _⟩ | ⟨g', cap', cur, hv, hbase, hb, h1, h2, h3, h4⟩
  · cases hv
  · cases hv
    rw [sv_enc] at h4
    refine (Tryz.slices_Sort_string g 0 cap L w (holds_of_block hb (by simpa using h4)) (Array.getElem?_eq_some_iff.1 hb).1 (by omega)).mono ?_
    rintro e w' ⟨rfl, n, os, rfl⟩
    refine ⟨rfl, ?_, grownBy_sorted _⟩
    have := ownsRow_sorted (ts := srtL L) (n := n) (os := os) (by simp [srtL]) hbase hb h1 h2 h3
    unfold SRow
    rw [show (srtL L).length = L.length by simp [srtL], sv_enc]
    exact this
theorem compact_any (B g cap : Nat) (L : List (List UInt8)) (w : World) (h : SRow B w (.slice (some ⟨g, 0, none⟩) L.length cap) L) (h0 : 0 < L.length) (hl : L.length ≤ 1000000) :
    Calls Tryz.prog 45 #[.slice (some ⟨g, 0, none⟩) L.length cap] w fun e w' => ∃ u, e = .returned u ∧ StrsAt w' u (Lib.compact L) ∧ w.grownBy w' (some g) := by
  rcases h.2 with ⟨hv, _⟩ | ⟨g', cap', cur, hv, hbase, hb, h1, h2, h3, h4⟩
  · cases hv
  · cases hv
    rw [sv_enc] at h4
    have hH := holds_of_block hb (by simpa using h4)
    refine (Tryz.slices_Compact_string g 0 cap L w hH (by omega) h1).mono ?_
    rintro e w' ⟨rfl, q, rfl⟩
    have hcl : (Lib.compact L).length ≤ L.length := by
      unfold Lib.compact compactUpTo
      rw [List.length_map]
      exact Nat.le_trans (List.length_filter_le _ _) (by simp)
    refine ⟨_, rfl, ⟨_, cap, rfl, ⟨by omega, fun e => by cases e⟩, fun hc0 => ⟨g, 0, rfl, fun j hj => ?_⟩⟩, ?_⟩
    · have hs : (Lib.compact L ++ List.replicate (L.length - (Lib.compact L).length) []).toArray.size = L.toArray.size := by simp; omega
      have hjs : j < (Lib.compact L ++ List.replicate (L.length - (Lib.compact L).length) []).toArray.size := by simp; omega
      rw [cell?_putRow encStr (Sort.ahead w q) g 0 L.toArray _ (holds_ahead _ _ _ _ _ _ hH) hs j hjs]
      have : (Lib.compact L ++ List.replicate (L.length - (Lib.compact L).length) []).toArray[j]! = (Lib.compact L).getD j [] := by
        rw [getElem!_pos _ j hjs]
        simp [hj, List.getD_eq_getElem?_getD]
      rw [this]
      rfl
    · refine ⟨rfl, rfl, rfl, by simp, fun k hk hne => ?_⟩
      have : g ≠ k := fun e => hne (by rw [e])
      simp [putRow, mapBlock, Sort.ahead, Array.getElem?_modify, this]
theorem sort_none (p : Option Addr) (c : Nat) (w : World) : Calls Tryz.prog 44 #[.slice p 0 c] w fun e w' => e = .returned (.tuple #[]) ∧ w = w' :=
  (Tryz.slices_Sort_string_none p c w).mono fun e w' h => ⟨h.1, h.2.symm⟩
theorem compact_none (p : Option Addr) (c : Nat) (w : World) : Calls Tryz.prog 45 #[.slice p 0 c] w fun e w' => e = .returned (.slice p 0 c) ∧ w = w' :=
  (Tryz.slices_Compact_string_empty p c w).mono fun e w' h => ⟨h.1, h.2.symm⟩
set_option maxRecDepth 8000 in
set_option maxHeartbeats 4000000 in
theorem pNames_any (e : Ex) (x : Value) (w : World) (hs : e.size ≤ 1000) (h : ExAt w x e) : Calls Tryz.prog 24 #[x] w (GatOut (gatherL [] (nmsE e)) w) := by
  obtain ⟨u, a, rfl, hu, hF⟩ := h
  have al := alloc_at w (xo e.d u a)
  have B0 := Lib.hid al
  have X0 := Lib.hid (XAt.new w e.d u a)
  have E0 := (show ExAt w (exV e.d u a) e from ⟨u, a, rfl, hu, hF⟩).below al
  have cN := Lib.hid (pnames_any 1000 e (exV e.d u a) (w.alloc (xo e.d u a)) (w.alloc (xo e.d u a)).heap.size (.slice none 0 0) [] hs (by omega) (E0.mono fun _ _ hl => hl) (srow_nil _ _) (by simp; omega) (Nat.le_refl _))
  rw [List.nil_append] at cN
  have hlen : (nmsE e).length ≤ 1000 := by
    have := nmsF_len e.kids
    unfold nmsE
    unfold Ex.size at hs
    rw [List.length_append]
    split
    · rw [List.length_singleton]; omega
    · rw [List.length_nil]; omega
  have hres := Lib.hid (names_eq (nmsE e))
  obtain ⟨pu, cu, rfl, _, _⟩ := hu
  obtain ⟨p, c, rfl, _, _⟩ := hF
  clear E0 al hs
  generalize nmsE e = N at *
  unfold exV at cN ⊢
  generalize e.d.ws.length = nw at *
  generalize e.kids.len = nk at *
  generalize e.d = d at *
  go_enter Tryz.func24, Tryz.ntmps24
  go_upto_region 1 with fail
  obtain ⟨b0, hb0⟩ : ∃ b, w.heap.size = b := ⟨_, rfl⟩
  rw [hb0] at X0 ⊢
  clear hb0
  generalize w.alloc (xo d (.slice pu nw cu) (.slice p nk c)) = W0 at *
  obtain ⟨_, y0, y1, y2, y3, y4, y5⟩ := X0.out
  go_wp2_with fail
  refine cN.out.mono ?_; rintro e w1 ⟨v1, rfl, hR, hO⟩
  have B1 := Lib.hid (B0.out.trans (hO.nil.mono B0.out.size))
  have hRs := Lib.hid hR
  clear hO cN y0 y1 y2 y3 y4 y5 X0
  by_cases h0 : N.length = 0
  · have hN : N = [] := List.length_eq_zero_iff.1 h0
    subst hN
    obtain ⟨q, k, hv, _, _⟩ := hR.at
    rw [List.length_nil] at hv
    subst hv
    have hf := Lib.hid (show GatOut (gatherL [] []) w (.returned (.slice q 0 k)) w1 from ⟨_, rfl, hRs.out.at, B1.out⟩)
    have c1 := Lib.hid (sort_none q k w1)
    have c2 := Lib.hid (compact_none q k w1)
    clear hR h0 hRs hlen
    go_wp2_with fail
    refine c1.out.mono ?_; rintro e w2 ⟨rfl, rfl⟩
    go_wp2_with fail
    refine c2.out.mono ?_; rintro e w2 ⟨rfl, rfl⟩
    go_wp2_with fail
    go_ret
    exact hf.out
  · rcases hR.2 with ⟨_, h1⟩ | ⟨g, cap, cur, rfl, hbase, _⟩
    · exact absurd h1 h0
    have hg := (hRs.out.block g rfl).1
    have c1 := Lib.hid (sort_any W0.heap.size g cap N w1 hRs.out (by omega))
    have hml : (srtL N).length = N.length := by simp [srtL]
    have hfin := Lib.hid (fun (W W' : World) (u : Value) (h1 : w1.grownBy W (some g)) (h2 : W.grownBy W' (some g)) (hS : StrsAt W' u (Lib.compact (srtL N))) => (show GatOut (gatherL [] N) w (.returned u) W' from
      ⟨u, rfl, by rw [← hres.out]; exact hS, B1.out.trans (Below.trans ⟨h1.os, h1.tape, h1.output, h1.size, fun k hk => h1.block k (by have := hRs.out.block g rfl; have := B0.out.size; omega) (fun e => by have := Option.some.inj e; have := B0.out.size; omega)⟩ ⟨h2.os, h2.tape, h2.output, h2.size, fun k hk => h2.block k (by have := h1.size; have := hRs.out.block g rfl; have := B0.out.size; omega) (fun e => by have := Option.some.inj e; have := B0.out.size; omega)⟩)⟩))
    have cC := Lib.hid (fun (W : World) (hS : SRow W0.heap.size W (.slice (some ⟨g, 0, none⟩) (srtL N).length cap) (srtL N)) => compact_any W0.heap.size g cap (srtL N) W hS (by omega) (by omega))
    rw [hml] at cC
    clear hR hRs hbase hml hg
    obtain ⟨nn, hnn⟩ : ∃ n, N.length = n := ⟨_, rfl⟩
    rw [hnn] at c1 cC ⊢
    clear hnn hlen h0
    go_wp2_with fail
    refine c1.out.mono ?_; rintro e w2 ⟨rfl, hS, hG⟩
    have c2 := Lib.hid (cC.out w2 hS)
    have hG1 := Lib.hid hG
    clear c1 hS hG cC
    go_wp2_with fail
    refine c2.out.mono ?_; rintro e w3 ⟨u3, rfl, hS, hG⟩
    have hf := Lib.hid (hfin.out w2 w3 u3 hG1.out hG hS)
    clear c2 hS hG
    go_wp2_with fail
    go_ret
    exact hf.out
set_option maxRecDepth 8000 in
set_option maxHeartbeats 4000000 in
theorem rNames_any (e : Ex) (x : Value) (w : World) (hs : e.size ≤ 1000) (h : ExAt w x e) : Calls Tryz.prog 25 #[x] w (GatOut (gatherL [] (nmsE e)) w) := by
  obtain ⟨u, a, rfl, hu, hF⟩ := h
  have al := alloc_at w (xo e.d u a)
  have B0 := Lib.hid al
  have X0 := Lib.hid (XAt.new w e.d u a)
  have E0 := (show ExAt w (exV e.d u a) e from ⟨u, a, rfl, hu, hF⟩).below al
  have cN := Lib.hid (rgather_any 1000 e (exV e.d u a) (w.alloc (xo e.d u a)) (.slice none 0 0) [] hs (by omega) E0 (strsS_nil Any _).at (by simp; omega))
  obtain ⟨pu, cu, rfl, _, _⟩ := hu
  obtain ⟨p, c, rfl, _, _⟩ := hF
  clear E0 al hs
  generalize nmsE e = N at *
  unfold exV at cN ⊢
  generalize e.d.ws.length = nw at *
  generalize e.kids.len = nk at *
  generalize e.d = d at *
  go_enter Tryz.func25, Tryz.ntmps25
  go_upto_region 1 with fail
  obtain ⟨b0, hb0⟩ : ∃ b, w.heap.size = b := ⟨_, rfl⟩
  rw [hb0] at X0 ⊢
  clear hb0
  generalize w.alloc (xo d (.slice pu nw cu) (.slice p nk c)) = W0 at *
  obtain ⟨_, y0, y1, y2, y3, y4, y5⟩ := X0.out
  go_wp2_with fail
  refine cN.out.mono ?_; rintro e w1 ⟨v1, rfl, hR, hO⟩
  have hf := Lib.hid (show GatOut (gatherL [] N) w (.returned v1) w1 from ⟨v1, rfl, hR, B0.out.trans (hO.mono B0.out.size)⟩)
  clear hR hO cN y0 y1 y2 y3 y4 y5 X0
  go_wp2_with fail
  go_ret
  exact hf.out
end Go.Proofs.YtjmipikahaoblaaGreatDoor.Syn
namespace Go.Proofs.YtjmipikahaoblaaGreatDoor.Syn
open Go.RowKit Go.Lib Go.Proofs.YtjmipikahaoblaaGreatDoor.Bas Go.Proofs.YtjmipikahaoblaaGreatDoor.Cal Go.Proofs.YtjmipikahaoblaaGreatDoor.Lx Go.Proofs.YtjmipikahaoblaaGreatDoor.Sc Go.Proofs.YtjmipikahaoblaaGreatDoor.Dk
set_option linter.unusedVariables false

set_option maxHeartbeats 4000000 in
theorem small_any (e : Ex) (x : Value) (w : World) (h : ExAt w x e) (hw : ExWf e) : Calls Tryz.prog 10 #[x] w (BB (decide (e.size ≤ 300)) w) := by
  obtain ⟨u, a, rfl, hu, hF⟩ := h
  have al := alloc_at w (xo e.d u a)
  have B0 := Lib.hid al
  have X0 := Lib.hid (XAt.new w e.d u a)
  have E0 := (show ExAt w (exV e.d u a) e from ⟨u, a, rfl, hu, hF⟩).below al
  have cS := Lib.hid (rsize_any e.size e (exV e.d u a) (w.alloc (xo e.d u a)) (Nat.le_refl _) E0 hw)
  have hd : decide (((min e.size 301 : Nat) : Int) ≤ 300) = decide (e.size ≤ 300) := by
    by_cases h : e.size ≤ 300
    · rw [decide_eq_true h]; exact decide_eq_true (by omega)
    · rw [decide_eq_false h]; exact decide_eq_false (by omega)
  have hm : min e.size 301 ≤ 301 := Nat.min_le_right _ _
  obtain ⟨pu, cu, rfl, _, _⟩ := hu
  obtain ⟨p, c, rfl, _, _⟩ := hF
  clear E0 al hw
  generalize min e.size 301 = ms at *
  generalize decide (e.size ≤ 300) = R at *
  unfold exV at cS ⊢
  generalize e.d.ws.length = nw at *
  generalize e.kids.len = nk at *
  generalize e.d = d at *
  go_enter Tryz.func10, Tryz.ntmps10
  go_upto_region 1 with fail
  obtain ⟨b0, hb0⟩ : ∃ b, w.heap.size = b := ⟨_, rfl⟩
  rw [hb0] at X0 ⊢
  clear hb0
  generalize w.alloc (xo d (.slice pu nw cu) (.slice p nk c)) = W0 at *
  obtain ⟨_, y0, y1, y2, y3, y4, y5⟩ := X0.out
  go_wp2_with fail
  refine cS.out.mono ?_; rintro e w1 ⟨rfl, hB⟩
  have hf := Lib.hid (show BB R w (.returned (.bool R)) w1 from ⟨rfl, B0.out.trans (hB.mono B0.out.size)⟩)
  clear hB cS y0 y1 y2 y3 y4 y5 X0
  go_wp2_with fail
  go_ret
  exact hf.out
/-- The six cells of a box. -/
abbrev Cel6 (W : World) (b : Nat) (d : Nd) (u a : Value) : Prop := W.cell? ⟨b, 0, none⟩ = some (.int .i64 d.op) ∧ W.cell? ⟨b, 1, none⟩ = some (.string (tx d.nm)) ∧ W.cell? ⟨b, 2, none⟩ = some u ∧ W.cell? ⟨b, 3, none⟩ = some (.int .i64 d.lo) ∧ W.cell? ⟨b, 4, none⟩ = some (.int .i64 d.hi) ∧ W.cell? ⟨b, 5, none⟩ = some a
theorem MadeB.size {x : Ex} (h : MadeB 5 x) : x.size ≤ 121 := by
  have h1 := h.sz
  have h2 : szB 5 = 121 := by decide
  omega
theorem bounds_all {l : List Int} (h : ∀ x ∈ l, (Lit.int .i64 x).wf = true) : ∀ x ∈ l, -9223372036854775808 ≤ x ∧ x ≤ 9223372036854775807 := fun x hx => Go.bounds_i64 (h x hx)
set_option maxRecDepth 8000 in
set_option maxHeartbeats 16000000 in
theorem names_walk (e : Ex) (u a : Value) (v : Value) (l : List Int) (w : World) (hT : EnvX w) (hS : StrsAt w u e.d.ws) (hF : FoAt w a e.kids) (hw : ExWf e) (hI : IntsAt w v l) (hn : l.length ≤ 9223372036854775807) (hwl : ∀ x ∈ l, (Lit.int .i64 x).wf = true) :
    Calls Tryz.prog 4 #[exV e.d u a, v] w (BB true w) := by
  have al := alloc_at w (xo e.d u a)
  have B0 := Lib.hid al
  have X0 := Lib.hid (XAt.new w e.d u a)
  have E0 := Lib.hid ((show ExAt w (exV e.d u a) e from ⟨u, a, rfl, strsS_of hS, hF⟩).below al)
  have cS := Lib.hid (small_any e (exV e.d u a) _ E0.out hw)
  have cA := Lib.hid (fun W (hb : Below w.heap.size w W) => awake_any W (hT.keep hb))
  have cX := Lib.hid (fun W (hb : Below w.heap.size w W) => expr_any v l W (hI.below hb) hn (bounds_all hwl))
  obtain ⟨pu, cu, rfl, _, _⟩ := hS
  obtain ⟨p, c, rfl, _, _⟩ := hF
  clear al hT hw hI hn hwl
  by_cases h300 : e.size ≤ 300
  · rw [decide_eq_true h300] at cS
    have hsz : e.size ≤ 1000 := by omega
    have cPe := Lib.hid (fun (W0 W : World) (h0 : ExAt W0 (exV e.d (.slice pu e.d.ws.length cu) (.slice p e.kids.len c)) e) (h : Below W0.heap.size W0 W) => pNames_any e _ W hsz (h0.below h))
    have cRe := Lib.hid (fun (W0 W : World) (h0 : ExAt W0 (exV e.d (.slice pu e.d.ws.length cu) (.slice p e.kids.len c)) e) (h : Below W0.heap.size W0 W) => rNames_any e _ W hsz (h0.below h))
    have hNe := Lib.hid (show (gatherL [] (nmsE e)).length ≤ 9223372036854775807 from by
      have h1 := gather_len (nmsE e) []
      have h2 := nmsF_len e.kids
      have h3 : (nmsE e).length ≤ e.size := by
        unfold nmsE Ex.size
        rw [List.length_append]
        split
        · rw [List.length_singleton]; omega
        · rw [List.length_nil]; omega
      rw [List.length_nil] at h1
      omega)
    clear hsz h300
    generalize gatherL [] (nmsE e) = Ne at *
    unfold exV at cS cPe cRe E0 ⊢
    generalize e.d.ws.length = nw at *
    generalize e.kids.len = nk at *
    generalize hee : e = e' at *
    generalize e'.d = d at *
    go_enter Tryz.func4, Tryz.ntmps4
    go_upto_region 1 with fail
    obtain ⟨b0, hb0⟩ : ∃ b, w.heap.size = b := ⟨_, rfl⟩
    rw [hb0] at X0 ⊢
    clear hb0
    generalize w.alloc (xo d (.slice pu nw cu) (.slice p nk c)) = W0 at *
    obtain ⟨_, y0, y1, y2, y3, y4, y5⟩ := X0.out
    go_wp2_with fail
    refine cS.out.mono ?_; rintro e w1 ⟨rfl, hB⟩
    have B1 := Lib.hid (B0.out.trans (hB.mono B0.out.size))
    have X1 := Lib.hid (X0.out.keep hB)
    have E1 := Lib.hid (E0.out.below hB)
    have cE := Lib.hid (cX.out w1 B1.out)
    clear hB cS y0 y1 y2 y3 y4 y5 X0 E0 B0 cX
    go_wp2_with fail
    refine cE.out.mono ?_; rintro e w2 ⟨x, q1, q2, n1, c1, n2, c2, rfl, hM, hE, hB⟩
    have hal := alloc_at w2 (xo x.d (.slice q1 n1 c1) (.slice q2 n2 c2))
    have B2 := Lib.hid ((B1.out.trans (hB.mono B1.out.size)).trans (hal.mono (by have := B1.out.size; have := hB.size; omega)))
    have X2 := Lib.hid ((X1.out.keep hB).keep hal)
    have E2 := Lib.hid ((E1.out.below hB).below hal)
    have K2 := Lib.hid (XAt.new w2 x.d (.slice q1 n1 c1) (.slice q2 n2 c2))
    have F2 := hE.at.below hal
    have hxs := hM.size
    have cPa := Lib.hid (fun (W : World) (h : Below (w2.alloc (xo x.d (.slice q1 n1 c1) (.slice q2 n2 c2))).heap.size (w2.alloc (xo x.d (.slice q1 n1 c1) (.slice q2 n2 c2))) W) => pNames_any x _ W (by omega) (F2.below h))
    have cRa := Lib.hid (fun (W : World) (h : Below (w2.alloc (xo x.d (.slice q1 n1 c1) (.slice q2 n2 c2))).heap.size (w2.alloc (xo x.d (.slice q1 n1 c1) (.slice q2 n2 c2))) W) => rNames_any x _ W (by omega) (F2.below h))
    have hNa := Lib.hid (show (gatherL [] (nmsE x)).length ≤ 9223372036854775807 from by
      have h1 := gather_len (nmsE x) []
      have h2 := nmsF_len x.kids
      have h3 : (nmsE x).length ≤ x.size := by
        unfold nmsE Ex.size
        rw [List.length_append]
        split
        · rw [List.length_singleton]; omega
        · rw [List.length_nil]; omega
      rw [List.length_nil] at h1
      omega)
    clear hB cE hE hM X1 E1 B1 hal F2 hxs
    generalize gatherL [] (nmsE x) = Na at *
    generalize x.d = dx at *
    unfold exV at cPa cRa ⊢
    go_upto_region 4 with fail
    obtain ⟨b5, hb5⟩ : ∃ b, w2.heap.size = b := ⟨_, rfl⟩
    rw [hb5] at K2 ⊢
    clear hb5
    generalize w2.alloc (xo dx (.slice q1 n1 c1) (.slice q2 n2 c2)) = W2 at *
    have cPe2 := Lib.hid (fun W h => cPe.out W2 W E2.out h)
    have cRe2 := Lib.hid (fun W h => cRe.out W2 W E2.out h)
    have cSa := Lib.hid (fun (W : World) (s t : Value) (h1 : StrsAt W s Na) (h2 : StrsAt W t Na) => (rsamew_any s t Na Na W h1 h2 hNa.out hNa.out))
    have cSe := Lib.hid (fun (W : World) (s t : Value) (h1 : StrsAt W s Ne) (h2 : StrsAt W t Ne) => (rsamew_any s t Ne Ne W h1 h2 hNe.out hNe.out))
    rw [decide_eq_true (rfl : Na = Na)] at cSa
    rw [decide_eq_true (rfl : Ne = Ne)] at cSe
    have cAw := Lib.hid (fun W (h : Below W2.heap.size W2 W) => cA.out W (B2.out.trans (h.mono B2.out.size)))
    have sdk := Lib.hid (fun W (hb : Below W2.heap.size W2 W) => (show Below W2.heap.size W2 W ∧ Cel6 W b0 d (.slice pu nw cu) (.slice p nk c) ∧ Cel6 W b5 dx (.slice q1 n1 c1) (.slice q2 n2 c2) from ⟨hb, (X2.out.keep hb).2, (K2.out.keep hb).2⟩))
    clear cPe cRe E2 cA
    go_region_held3 (fun w' => Below W2.heap.size W2 w' ∧ (w'.cell? ⟨b0, 0, none⟩ = some (.int .i64 d.op) ∧ w'.cell? ⟨b0, 1, none⟩ = some (.string (tx d.nm)) ∧ w'.cell? ⟨b0, 2, none⟩ = some (.slice pu nw cu) ∧ w'.cell? ⟨b0, 3, none⟩ = some (.int .i64 d.lo) ∧ w'.cell? ⟨b0, 4, none⟩ = some (.int .i64 d.hi) ∧ w'.cell? ⟨b0, 5, none⟩ = some (.slice p nk c)) ∧ (w'.cell? ⟨b5, 0, none⟩ = some (.int .i64 dx.op) ∧ w'.cell? ⟨b5, 1, none⟩ = some (.string (tx dx.nm)) ∧ w'.cell? ⟨b5, 2, none⟩ = some (.slice q1 n1 c1) ∧ w'.cell? ⟨b5, 3, none⟩ = some (.int .i64 dx.lo) ∧ w'.cell? ⟨b5, 4, none⟩ = some (.int .i64 dx.hi) ∧ w'.cell? ⟨b5, 5, none⟩ = some (.slice q2 n2 c2)))
      ((refine sdk.out _ ?_; first | exact below_drewN (Below.refl _ _) 1 | exact trans_b (And.left (by assumption)) hB1 | exact trans_b (And.left (by assumption)) hB2 | exact trans_b (And.left (by assumption)) hB3 | exact trans_b (And.left (by assumption)) hB4 | exact trans_b (And.left (by assumption)) hB5 | exact below_drewN (And.left (by assumption)) _))
      (first
        | (go_at_call 24; (with_reducible refine (cPa.out _ (And.left (by assumption))).mono ?_); rintro e w' ⟨s1, rfl, hU1, hB1⟩)
        | (go_at_call 25; (with_reducible refine (cRa.out _ (And.left (by assumption))).mono ?_); rintro e w' ⟨s2, rfl, hU2, hB2⟩)
        | (go_at_call 24; (with_reducible refine (cPe2.out _ (And.left (by assumption))).mono ?_); rintro e w' ⟨s3, rfl, hU3, hB3⟩)
        | (go_at_call 25; (with_reducible refine (cRe2.out _ (And.left (by assumption))).mono ?_); rintro e w' ⟨s4, rfl, hU4, hB4⟩)
        | (go_at_call 23; (with_reducible refine (cSa.out _ s1 s2 (by first | exact hU1 | exact hU1.below hB2) (by first | exact hU2 | exact hU2.below hB1)).mono ?_); rintro e w' ⟨rfl, nq, rfl⟩)
        | (go_at_call 23; (with_reducible refine (cSe.out _ s3 s4 (by first | exact hU3 | exact hU3.below hB4) (by first | exact hU4 | exact hU4.below hB3)).mono ?_); rintro e w' ⟨rfl, nq, rfl⟩)
        | (go_at_call 11; (with_reducible refine (cAw.out _ (And.left (by assumption))).mono ?_); rintro e w' ⟨rfl, hB5⟩))
    all_goals
      rename_i hh
      have hf := Lib.hid (B2.out.trans ((And.left hh).mono B2.out.size))
      clear hh
      go_wp2_with fail
      go_ret
      exact ⟨rfl, hf.out⟩
  · rw [decide_eq_false h300] at cS
    clear h300 cX
    unfold exV at cS ⊢
    generalize e.d.ws.length = nw at *
    generalize e.kids.len = nk at *
    generalize e.d = d at *
    go_enter Tryz.func4, Tryz.ntmps4
    go_upto_region 1 with fail
    obtain ⟨b0, hb0⟩ : ∃ b, w.heap.size = b := ⟨_, rfl⟩
    rw [hb0] at X0 ⊢
    clear hb0
    generalize w.alloc (xo d (.slice pu nw cu) (.slice p nk c)) = W0 at *
    obtain ⟨_, y0, y1, y2, y3, y4, y5⟩ := X0.out
    go_wp2_with fail
    refine cS.out.mono ?_; rintro e w1 ⟨rfl, hB⟩
    have B1 := Lib.hid (B0.out.trans (hB.mono B0.out.size))
    have cW := Lib.hid (cA.out w1 B1.out)
    clear hB cS y0 y1 y2 y3 y4 y5 X0 E0 B0 cA
    go_wp2_with fail
    refine cW.out.mono ?_; rintro e w2 ⟨rfl, hB⟩
    have hf := Lib.hid (B1.out.trans (hB.mono B1.out.size))
    clear hB cW
    go_wp2_with fail
    go_ret
    exact ⟨rfl, hf.out⟩
end Go.Proofs.YtjmipikahaoblaaGreatDoor.Syn
namespace Go.Proofs.YtjmipikahaoblaaGreatDoor.Lx
open Go.RowKit Go.Lib Go.Proofs.YtjmipikahaoblaaGreatDoor.Bas Go.Proofs.YtjmipikahaoblaaGreatDoor.Cal
set_option linter.unusedVariables false

theorem rletter_any (c : UInt8) (w : World) : Calls Tryz.prog 55 #[.int .u8 (c.toNat : Int)] w (BoolSame (ltr c) w) := by
  unfold ltr
  generalize c.toNat = n
  by_cases h1 : (97 : Int) ≤ (n : Int)
  · have t1 : decide ((97 : Int) ≤ (n : Int)) = true := decide_eq_true h1
    by_cases h2 : (n : Int) ≤ 122
    · rw [show decide (97 ≤ n ∧ n ≤ 122) = true by simp; omega]
      have t2 : decide ((n : Int) ≤ 122) = true := decide_eq_true h2
      clear h1 h2
      go_enter Tryz.func55, Tryz.ntmps55
      go_wp2
      go_ret
      exact ⟨rfl, rfl⟩
    · rw [show decide (97 ≤ n ∧ n ≤ 122) = false by simp; omega]
      have t2 : decide ((n : Int) ≤ 122) = false := decide_eq_false h2
      clear h1 h2
      go_enter Tryz.func55, Tryz.ntmps55
      go_wp2
      go_ret
      exact ⟨rfl, rfl⟩
  · rw [show decide (97 ≤ n ∧ n ≤ 122) = false by simp; omega]
    have t1 : decide ((97 : Int) ≤ (n : Int)) = false := decide_eq_false h1
    clear h1
    go_enter Tryz.func55, Tryz.ntmps55
    go_wp2
    go_ret
    exact ⟨rfl, rfl⟩
theorem rdigit_any (c : UInt8) (w : World) : Calls Tryz.prog 88 #[.int .u8 (c.toNat : Int)] w (BoolSame (dgt c) w) := by
  unfold dgt
  generalize c.toNat = n
  by_cases h1 : (48 : Int) ≤ (n : Int)
  · have t1 : decide ((48 : Int) ≤ (n : Int)) = true := decide_eq_true h1
    by_cases h2 : (n : Int) ≤ 57
    · rw [show decide (48 ≤ n ∧ n ≤ 57) = true by simp; omega]
      have t2 : decide ((n : Int) ≤ 57) = true := decide_eq_true h2
      clear h1 h2
      go_enter Tryz.func88, Tryz.ntmps88
      go_wp2
      go_ret
      exact ⟨rfl, rfl⟩
    · rw [show decide (48 ≤ n ∧ n ≤ 57) = false by simp; omega]
      have t2 : decide ((n : Int) ≤ 57) = false := decide_eq_false h2
      clear h1 h2
      go_enter Tryz.func88, Tryz.ntmps88
      go_wp2
      go_ret
      exact ⟨rfl, rfl⟩
  · rw [show decide (48 ≤ n ∧ n ≤ 57) = false by simp; omega]
    have t1 : decide ((48 : Int) ≤ (n : Int)) = false := decide_eq_false h1
    clear h1
    go_enter Tryz.func88, Tryz.ntmps88
    go_wp2
    go_ret
    exact ⟨rfl, rfl⟩
theorem rWord_empty (w : World) : Calls Tryz.prog 87 #[.string { data := #[] }] w (BoolSame false w) := by
  go_enter Tryz.func87, Tryz.ntmps87
  go_wp2_with fail
  go_ret
  exact ⟨rfl, rfl⟩
theorem rWord_long (s : ByteArray) (w : World) (h1 : 16 < s.size) (h2 : s.size ≤ 9223372036854775807) : Calls Tryz.prog 87 #[.string s] w (BoolSame false w) := by
  have t0 : decide ((s.size : Int) < 1) = false := by simp; omega
  have t0' : decide (s.size < 1) = false := decide_eq_false (by omega)
  have t1 : decide ((16 : Int) < (s.size : Int)) = true := by simp; omega
  have t2 : decide (16 < s.size) = true := by simp; omega
  go_enter Tryz.func87, Tryz.ntmps87
  go_wp2_with fail
  all_goals (try (exfalso; omega; done))
  go_ret
  exact ⟨rfl, rfl⟩
theorem inW_of (c : UInt8) : inW c = (ltr c || (dgt c || decide (c.toNat = 45))) := rfl
set_option maxHeartbeats 4000000 in
theorem rWord_mid (s : ByteArray) (w : World) (h0 : 0 < s.size) (h1 : s.size ≤ 16) (a b : Bool) (ha : ltr s[0] = a) (hb : ((s[s.size - 1]'(by omega)).toNat : Int) = 45 ↔ b = true) (r : Bool) (hr : r = decide (s.size ≤ 16 ∧ a = true ∧ ¬ (b = true) ∧ spn inW (bl s) = s.size)) :
    Calls Tryz.prog 87 #[.string s] w (BoolSame r w) := by
  have c1 := Lib.hid (rletter_any s[0])
  rw [ha] at c1
  have cL := Lib.hid rletter_any
  have cD := Lib.hid rdigit_any
  have hsp := spn_le inW (bl s)
  rw [bl_size] at hsp
  have hsz := Lib.hid (bl_size s)
  have hget := Lib.hid (bl_get s)
  have heq := Lib.hid (spn_eq inW (bl s))
  have hinW := Lib.hid inW_of
  have i1 : (0 : Int) ≤ (s.size : Int) - 1 := by omega
  have i2 : (s.size : Int) - 1 < (s.size : Int) := by omega
  have i3 : ((s.size : Int) - 1).toNat = s.size - 1 := by omega
  have i4 : IntKind.i64.wrap ((s.size : Int) - 1) = (s.size : Int) - 1 := IntWalk.i64_in _ (by omega)
  have i5 : s.size - 1 < s.size := by omega
  have t0 : decide ((s.size : Int) < 1) = false := by simp; omega
  have t0' : decide (s.size < 1) = false := decide_eq_false (by omega)
  have t1 : decide ((16 : Int) < (s.size : Int)) = false := by simp; omega
  have t2 : decide (16 < s.size) = false := by simp; omega
  have hr' := Lib.hid hr
  clear hr ha hsp
  cases a with
  | false =>
    obtain rfl : r = false := by rw [hr'.out]; simp
    clear hb
    go_enter Tryz.func87, Tryz.ntmps87
    go_wp2_with (go_at_call 55; refine (c1.out _).mono ?_; rintro e w' ⟨rfl, rfl⟩)
    all_goals (try (exfalso; omega; done))
    go_ret
    exact ⟨rfl, rfl⟩
  | true =>
    cases b with
    | true =>
      obtain rfl : r = false := by rw [hr'.out]; simp
      have q : (((s[s.size - 1]'(by omega)).toNat : Int) == 45) = true := by simpa using hb.2 rfl
      clear hb
      go_enter Tryz.func87, Tryz.ntmps87
      go_wp2_with (go_at_call 55; refine (c1.out _).mono ?_; rintro e w' ⟨rfl, rfl⟩)
      all_goals (try (exfalso; omega; done))
      go_ret
      exact ⟨rfl, rfl⟩
    | false =>
      have q : (((s[s.size - 1]'(by omega)).toNat : Int) == 45) = false := by
        have : ¬ (((s[s.size - 1]'(by omega)).toNat : Int) = 45) := fun h => by simpa using hb.1 h
        simpa using this
      clear hb
      have hr2 : Hid (r = decide (spn inW (bl s) = s.size)) := Lib.hid (by rw [hr'.out]; congr 1; simp; omega)
      clear hr'
      go_enter Tryz.func87, Tryz.ntmps87
      go_wp2_with (go_at_call 55; refine (c1.out _).mono ?_; rintro e w' ⟨rfl, rfl⟩)
      all_goals (try (exfalso; omega; done))
      go_loop [3] (fun i => ∃ k : Nat, k ≤ s.size ∧ i = .int .i64 k ∧ Hid (∀ j, j < k → inW ((bl s).getD j 0) = true)) (fun i => s.size - (RowKit.intOf i).toNat)
      case atStart => exact ⟨0, Nat.zero_le _, rfl, Lib.hid (fun j hj => by omega)⟩
      case round =>
        obtain ⟨k, hk, rfl, hP⟩ := hrel
        by_cases hlt : k < s.size
        · have hg := Lib.hid (hget.out k hlt)
          have cLk := Lib.hid (cL.out s[k])
          have cDk := Lib.hid (cD.out s[k])
          have hin := Lib.hid (hinW.out s[k])
          have hno : Hid (inW s[k] = false → r = false) := Lib.hid (fun h => by
            rw [hr2.out, heq.out k (by rw [hsz.out]; omega) hP.out (fun _ => by rw [hg.out, h])]
            simp; omega)
          have hyes : Hid (inW s[k] = true → ∀ j, j < k + 1 → inW ((bl s).getD j 0) = true) := Lib.hid (fun h j hj => by
            by_cases e : j < k
            · exact hP.out j e
            · obtain rfl : j = k := by omega
              rw [hg.out, h])
          generalize inW s[k] = v at *
          generalize ltr s[k] = x at *
          generalize dgt s[k] = y at *
          by_cases h45 : s[k].toNat = 45
          · have u1 : ((s[k].toNat : Int) == 45) = true := by simp; omega
            have u2 : ((s[k].toNat : Int) != 45) = false := by simp; omega
            rw [decide_eq_true h45] at hin
            have hP' := Lib.hid (hyes.out (by rw [hin.out]; simp))
            clear h45 hyes hno hin
            cases x <;> cases y
            all_goals
              go_wp2_with (first | (go_at_call 55; refine (cLk.out _).mono ?_; rintro e w' ⟨rfl, rfl⟩) | (go_at_call 88; refine (cDk.out _).mono ?_; rintro e w' ⟨rfl, rfl⟩))
              go_round
              case rel => exact ⟨k + 1, by omega, by go_num, hP'⟩
              case measure => simp [RowKit.intOf]; omega
          · have u1 : ((s[k].toNat : Int) == 45) = false := by simp; omega
            have u2 : ((s[k].toNat : Int) != 45) = true := by simp; omega
            rw [decide_eq_false h45] at hin
            clear h45
            cases x
            · cases y
              · have hv := Lib.hid (hno.out (by rw [hin.out]; rfl))
                clear hyes hno hin
                go_wp2_with (first | (go_at_call 55; refine (cLk.out _).mono ?_; rintro e w' ⟨rfl, rfl⟩) | (go_at_call 88; refine (cDk.out _).mono ?_; rintro e w' ⟨rfl, rfl⟩))
                go_ret
                exact ⟨by rw [hv.out]; rfl, rfl⟩
              · have hP' := Lib.hid (hyes.out (by rw [hin.out]; rfl))
                clear hyes hno hin
                go_wp2_with (first | (go_at_call 55; refine (cLk.out _).mono ?_; rintro e w' ⟨rfl, rfl⟩) | (go_at_call 88; refine (cDk.out _).mono ?_; rintro e w' ⟨rfl, rfl⟩))
                go_round
                case rel => exact ⟨k + 1, by omega, by go_num, hP'⟩
                case measure => simp [RowKit.intOf]; omega
            · have hP' := Lib.hid (hyes.out (by rw [hin.out]; rfl))
              clear hyes hno hin
              go_wp2_with (first | (go_at_call 55; refine (cLk.out _).mono ?_; rintro e w' ⟨rfl, rfl⟩) | (go_at_call 88; refine (cDk.out _).mono ?_; rintro e w' ⟨rfl, rfl⟩))
              go_round
              case rel => exact ⟨k + 1, by omega, by go_num, hP'⟩
              case measure => simp [RowKit.intOf]; omega
        · obtain rfl : k = s.size := by omega
          have hv : Hid (r = true) := Lib.hid (by rw [hr2.out, heq.out s.size (by rw [hsz.out]; omega) hP.out (fun h => by rw [hsz.out] at h; omega)]; simp)
          go_wp2_with fail
          go_ret
          exact ⟨by rw [hv.out]; rfl, rfl⟩
theorem rWord_any (s : ByteArray) (w : World) (hs : s.size ≤ 9223372036854775807) : Calls Tryz.prog 87 #[.string s] w (BoolSame (wordB (bl s)) w) := by
  by_cases h0 : 0 < s.size
  · by_cases h1 : 16 < s.size
    · rw [wordB_bl s h0, decide_eq_false (by omega)]
      exact rWord_long s w h1 hs
    · rw [wordB_bl s h0]
      refine rWord_mid s w h0 (by omega) (ltr s[0]) (decide ((s[s.size - 1]'(by omega)).toNat = 45)) rfl ?_ _ ?_
      · simp; omega
      · congr 1; simp
  · obtain rfl := bl_nil s (by omega)
    exact rWord_empty w
theorem rname_any (s : ByteArray) (w : World) (hs : s.size ≤ 9223372036854775807) : Calls Tryz.prog 95 #[.string s] w (BoolSame (wordB (bl s) && !resB (bl s)) w) := by
  have c1 := Lib.hid (rWord_any s w hs)
  have c2 := Lib.hid (rreserved_any s w)
  generalize wordB (bl s) = a at *
  generalize resB (bl s) = b at *
  cases a <;> cases b
  all_goals
    go_enter Tryz.func95, Tryz.ntmps95
    go_wp2_with (first | (go_at_call 87; refine c1.out.mono ?_; rintro e w' ⟨rfl, rfl⟩) | (go_at_call 130; refine c2.out.mono ?_; rintro e w' ⟨rfl, rfl⟩))
    go_ret
    exact ⟨rfl, rfl⟩
theorem markB_bl (s : ByteArray) : markB (bl s) = ((s.toList == [59]) || ((s.toList == [58]) || ((s.toList == [44]) || ((s.toList == [40]) || (s.toList == [41]))))) := by
  rw [toList_bl]
  unfold markB
  generalize bl s = l
  rw [Bool.eq_iff_iff]
  simp
theorem rmark_any (s : ByteArray) (w : World) : Calls Tryz.prog 91 #[.string s] w (BoolSame (markB (bl s)) w) := by
  rw [markB_bl]
  cases t0 : (s.toList == [59])
  case true =>
    go_enter Tryz.func91, Tryz.ntmps91
    go_wp2_with fail
    go_ret
    exact ⟨rfl, rfl⟩
  cases t1 : (s.toList == [58])
  case true =>
    go_enter Tryz.func91, Tryz.ntmps91
    go_wp2_with fail
    go_ret
    exact ⟨rfl, rfl⟩
  cases t2 : (s.toList == [44])
  case true =>
    go_enter Tryz.func91, Tryz.ntmps91
    go_wp2_with fail
    go_ret
    exact ⟨rfl, rfl⟩
  cases t3 : (s.toList == [40])
  case true =>
    go_enter Tryz.func91, Tryz.ntmps91
    go_wp2_with fail
    go_ret
    exact ⟨rfl, rfl⟩
  cases t4 : (s.toList == [41])
  case true =>
    go_enter Tryz.func91, Tryz.ntmps91
    go_wp2_with fail
    go_ret
    exact ⟨rfl, rfl⟩
  go_enter Tryz.func91, Tryz.ntmps91
  go_wp2_with fail
  go_ret
  exact ⟨rfl, rfl⟩
end Go.Proofs.YtjmipikahaoblaaGreatDoor.Lx
namespace Go.Proofs.YtjmipikahaoblaaGreatDoor.Sc
open Go.RowKit Go.Lib Go.Proofs.YtjmipikahaoblaaGreatDoor.Bas Go.Proofs.YtjmipikahaoblaaGreatDoor.Cal Go.Proofs.YtjmipikahaoblaaGreatDoor.Lx
set_option linter.unusedVariables false

theorem rfar_any (n : Int) (w : World) (h0 : -9223372036854775808 ≤ n) (h1 : n ≤ 9223372036854775807) : Calls Tryz.prog 98 #[.int .i64 n] w (BoolSame (farB n) w) := by
  unfold farB
  by_cases t : 1000000000 < n
  · have t1 : decide ((1000000000 : Int) < n) = true := by simpa using t
    rw [show decide (n > 1000000000) = true from t1, Bool.true_or]
    go_enter Tryz.func98, Tryz.ntmps98
    go_wp2_with fail
    go_ret
    exact ⟨rfl, rfl⟩
  · have t1 : decide ((1000000000 : Int) < n) = false := by simpa using t
    rw [show decide (n > 1000000000) = false from t1, Bool.false_or]
    by_cases s : n < -1000000000
    · have s1 : decide (n < (-1000000000 : Int)) = true := by simpa using s
      rw [s1]
      go_enter Tryz.func98, Tryz.ntmps98
      go_wp2_with fail
      go_ret
      exact ⟨rfl, rfl⟩
    · have s1 : decide (n < (-1000000000 : Int)) = false := by simpa using s
      rw [s1]
      go_enter Tryz.func98, Tryz.ntmps98
      go_wp2_with fail
      go_ret
      exact ⟨rfl, rfl⟩
theorem names_no {l : List (List UInt8)} {k : Nat} (hk : k < l.length) (h : nameB (l.getD k []) = false) : namesB l = false := by
  unfold namesB
  apply decide_eq_false
  intro hh
  rw [hh k hk] at h; cases h
theorem rname_tx (x : List UInt8) (w : World) (h : x.length ≤ 9223372036854775807) : Calls Tryz.prog 95 #[.string (tx x)] w (BoolSame (nameB x) w) := by
  have := rname_any (tx x) w (by rw [tx_size]; exact h)
  rw [bl_tx] at this
  exact this
set_option maxHeartbeats 4000000 in
theorem rnames_any (u : Value) (l : List (List UInt8)) (w : World) (h : StrsAt w u l) (hw : WsWf l) : Calls Tryz.prog 96 #[u] w (BoolSame (namesB l) w) := by
  obtain ⟨p, c, rfl, _, hp⟩ := h
  obtain ⟨n, hn⟩ : ∃ n, l.length = n := ⟨_, rfl⟩
  have hn' := Lib.hid hn
  obtain ⟨hl, hx⟩ := hw
  have hx' := Lib.hid hx
  have hp' := Lib.hid hp
  have hR := Lib.hid (show ∀ k, k < l.length → nameB (l.getD k []) = false → namesB l = false from fun k hk => names_no hk)
  have hY := Lib.hid (show (∀ j, j < l.length → nameB (l.getD j []) = true) → namesB l = true from fun h => decide_eq_true h)
  rw [hn] at hl hR hY ⊢
  generalize namesB l = B at *
  clear hn hp hx
  go_enter Tryz.func96, Tryz.ntmps96
  go_wp2_with fail
  go_loopw [3] (fun i wr => ∃ k : Nat, k ≤ n ∧ i = .int .i64 k ∧ wr = w ∧ Hid (∀ j, j < k → nameB (l.getD j []) = true)) (fun i _ => n - (RowKit.intOf i).toNat)
  case atStart => exact ⟨0, Nat.zero_le _, rfl, rfl, Lib.hid (fun j hj => absurd hj (Nat.not_lt_zero _))⟩
  case round =>
    obtain ⟨k, hk, rfl, rfl, hA⟩ := hrel
    by_cases hlt : k < n
    · obtain ⟨b, off, rfl, hc⟩ := hp'.out (by rw [hn'.out]; omega)
      have h1 := hc k (by rw [hn'.out]; exact hlt)
      have hgl : (l.getD k []).length ≤ 9223372036854775807 := by
        have hkl : k < l.length := by rw [hn'.out]; exact hlt
        rw [List.getD_eq_getElem?_getD, List.getElem?_eq_getElem hkl]
        exact hx'.out _ (List.getElem_mem _)
      have cN := Lib.hid (rname_tx (l.getD k []) wr hgl)
      have hno := Lib.hid (hR.out k hlt)
      have hye := Lib.hid (fun (h : nameB (l.getD k []) = true) => (show ∀ j, j < k + 1 → nameB (l.getD j []) = true from fun j hj => by
        by_cases e : j = k
        · rw [e]; exact h
        · exact hA.out j (by omega)))
      clear hc hgl
      generalize nameB (l.getD k []) = q at *
      generalize tx (l.getD k []) = s at *
      have hk64 : IntKind.i64.wrap ((k : Int) + 1) = (k : Int) + 1 := IntWalk.i64_in _ (by omega)
      go_wp2_with fail
      refine cN.out.mono ?_; rintro e w' ⟨rfl, rfl⟩
      cases q with
      | true =>
        have hA2 := Lib.hid (hye.out rfl)
        clear hye hno cN h1
        go_wp2_with fail
        go_roundw
        case rel => exact ⟨k + 1, by omega, by go_num, by first | rfl | trivial, hA2⟩
        case measure => simp [RowKit.intOf]; omega
      | false =>
        have hB := Lib.hid (hno.out rfl)
        clear hye hno cN h1
        go_wp2_with fail
        go_ret
        exact ⟨ret_b hB.out.symm, rfl⟩
    · have hB := Lib.hid (hY.out (fun j hj => hA.out j (by omega)))
      go_wp2_with fail
      go_ret
      exact ⟨ret_b hB.out.symm, rfl⟩
theorem dist_no {l : List (List UInt8)} {i k : Nat} (hi : i < l.length) (hk : k < i) (h : l.getD i [] = l.getD k []) : distB l = false := by
  unfold distB
  apply decide_eq_false
  intro hh
  exact hh i hi k hk h
set_option maxHeartbeats 8000000 in
theorem rdist_any (u : Value) (l : List (List UInt8)) (w : World) (h : StrsAt w u l) (hw : WsWf l) : Calls Tryz.prog 97 #[u] w (BoolDr2 (distB l) w) := by
  obtain ⟨p, c, rfl, _, hp⟩ := h
  obtain ⟨n, hn⟩ : ∃ n, l.length = n := ⟨_, rfl⟩
  have hn' := Lib.hid hn
  obtain ⟨hl, hx⟩ := hw
  have hp' := Lib.hid hp
  have hR := Lib.hid (show ∀ i, i < l.length → ∀ k, k < i → l.getD i [] = l.getD k [] → distB l = false from fun i hi k hk h => dist_no hi hk h)
  have hY := Lib.hid (show (∀ i, i < l.length → ∀ k, k < i → l.getD i [] ≠ l.getD k []) → distB l = true from fun h => decide_eq_true h)
  rw [hn] at hl hR hY ⊢
  generalize distB l = B at *
  clear hn hp hx
  go_enter Tryz.func97, Tryz.ntmps97
  go_wp2_with fail
  go_loopw [3] (fun i wr => ∃ k : Nat, k ≤ n ∧ i = .int .i64 k ∧ Hid (Dr w wr) ∧ Hid (∀ j, j < k → ∀ m, m < j → l.getD j [] ≠ l.getD m [])) (fun i _ => n - (RowKit.intOf i).toNat)
  case atStart => exact ⟨0, Nat.zero_le _, rfl, Lib.hid (Dr.refl w), Lib.hid (fun j hj => absurd hj (Nat.not_lt_zero _))⟩
  case round =>
    obtain ⟨i, hi, rfl, hD, hA⟩ := hrel
    by_cases hlt : i < n
    · obtain ⟨b, off, rfl, hc⟩ := hp'.out (by rw [hn'.out]; omega)
      have hi64 : IntKind.i64.wrap ((i : Int) + 1) = (i : Int) + 1 := IntWalk.i64_in _ (by omega)
      have hc' := Lib.hid hc
      clear hc
      go_wp2_with fail
      go_loopw [4] (fun x wr2 => ∃ k : Nat, k ≤ i ∧ x = .int .i64 k ∧ Hid (Dr w wr2) ∧ Hid (∀ m, m < k → l.getD i [] ≠ l.getD m [])) (fun x _ => i - (RowKit.intOf x).toNat)
      case atStart => exact ⟨0, Nat.zero_le _, rfl, hD, Lib.hid (fun j hj => absurd hj (Nat.not_lt_zero _))⟩
      case round =>
        obtain ⟨k, hk, rfl, hD2, hA2⟩ := hrel
        by_cases hki : k < i
        · have h1 := hc'.out i (by rw [hn'.out]; exact hlt)
          have h2 := hc'.out k (by rw [hn'.out]; omega)
          obtain ⟨nd, hnd⟩ := hD2.out
          subst hnd
          have hk64 : IntKind.i64.wrap ((k : Int) + 1) = (k : Int) + 1 := IntWalk.i64_in _ (by omega)
          have hkn : k < n := by omega
          have tt := tx_test (l.getD i []) (l.getD k [])
          have hno := Lib.hid (hR.out i hlt k hki)
          have hye := Lib.hid (fun (h : l.getD i [] ≠ l.getD k []) => (show ∀ m, m < k + 1 → l.getD i [] ≠ l.getD m [] from fun m hm => by
            by_cases e : m = k
            · rw [e]; exact h
            · exact hA2.out m (by omega)))
          generalize l.getD i [] = x at *
          generalize l.getD k [] = y at *
          by_cases hxy : x = y
          · rw [decide_eq_true hxy] at tt
            have hB := Lib.hid (hno.out hxy)
            clear hxy hno hye
            generalize tx x = sx at *
            generalize tx y = sy at *
            go_wp2_with fail
            go_quiet (fail)
            go_wp2_with fail
            go_ret
            exact ⟨ret_b hB.out.symm, Dr.trans ⟨nd, rfl⟩ ⟨_, rfl⟩⟩
          · rw [decide_eq_false hxy] at tt
            have hA3 := Lib.hid (hye.out hxy)
            clear hxy hno hye
            generalize tx x = sx at *
            generalize tx y = sy at *
            go_wp2_with fail
            go_quiet (fail)
            go_wp2_with fail
            go_roundw
            case rel => exact ⟨k + 1, by omega, by go_num, Lib.hid (⟨_, rfl⟩), hA3⟩
            case measure => simp [RowKit.intOf]; omega
        · have hA4 := Lib.hid (show ∀ j, j < i + 1 → ∀ m, m < j → l.getD j [] ≠ l.getD m [] from fun j hj m hm => by
            by_cases e : j = i
            · subst e; exact hA2.out m (by omega)
            · exact hA.out j (by omega) m hm)
          clear hA hA2 hc' hD
          go_wp2_with fail
          go_roundw
          case rel => exact ⟨i + 1, by omega, by go_num, hD2, hA4⟩
          case measure => simp [RowKit.intOf]; omega
    · have hB := Lib.hid (hY.out (fun j hj => hA.out j (by omega)))
      go_wp2_with fail
      go_ret
      exact ⟨ret_b hB.out.symm, hD.out⟩
end Go.Proofs.YtjmipikahaoblaaGreatDoor.Sc
