/- The program's Tokens. Package lexer: Scan. Of tokens that were scanned: how many, and how long (mathematics); what Parse returns. Package lexer: Scan at every text; the statements' sanity check. The program's Parse. The statements' sanity check. treatymade.Within. The schemas that the statements make. The schemas that the statements make. -/
import Derived.Test.YtjmipikahaoblaaGreatDoorZ07
import Derived.Test.YtjmipikahaoblaaGreatDoorZ04
import Derived.Test.YtjmipikahaoblaaGreatDoorZ03
import Derived.WalkMore
import Derived.Test.YtjmipikahaoblaaGreatDoorZ00
import Derived.StillTailTactics
import Derived.Test.YtjmipikahaoblaaGreatDoorZ01
namespace Go.Proofs.YtjmipikahaoblaaGreatDoor.Syn
open Go.RowKit Go.Lib Go.Proofs.YtjmipikahaoblaaGreatDoor.Bas Go.Proofs.YtjmipikahaoblaaGreatDoor.Cal Go.Proofs.YtjmipikahaoblaaGreatDoor.Lx Go.Proofs.YtjmipikahaoblaaGreatDoor.Sc Go.Proofs.YtjmipikahaoblaaGreatDoor.Dk
set_option linter.unusedVariables false

/-- An expression, an index, the index of an error, an error. -/
def TokensOut (V : Ex × Nat × Nat × Int) (w : World) (e : Ending) (w' : World) : Prop := ∃ u, e = .returned (.tuple #[u, .int .i64 (V.2.1 : Int), .int .i64 (V.2.2.1 : Int), .int .i64 V.2.2.2]) ∧ ExS (fun b => w.heap.size ≤ b) w' u V.1 ∧ Below w.heap.size w w'
theorem tokensV_out (L : List Tok) (i : Int) (h : i < 0 ∨ (L.length : Int) < i) : tokensV L i = (e0, 0, 0, 1) := by unfold tokensV; rw [if_pos h]
theorem tokensV_in (L : List Tok) (i : Nat) (h : i ≤ L.length) :
    ((eitherR L (rs i)).1.e ≠ 0 → tokensV L i = (e0, 0, (eitherR L (rs i)).1.bad, (eitherR L (rs i)).1.e)) ∧
    ((eitherR L (rs i)).1.e = 0 → 300 < (eitherR L (rs i)).2.size ∨ 16 < (eitherR L (rs i)).2.depth → tokensV L i = (e0, 0, i, 4)) ∧
    ((eitherR L (rs i)).1.e = 0 → ¬ (300 < (eitherR L (rs i)).2.size ∨ 16 < (eitherR L (rs i)).2.depth) → tokensV L i = ((eitherR L (rs i)).2, (eitherR L (rs i)).1.at', 0, 0)) := by
  have hz : ¬ ((i : Int) < 0 ∨ (L.length : Int) < (i : Int)) := by omega
  have hr : readR L ⟨(i : Int).toNat, 0, 0⟩ = if (eitherR L (rs i)).1.e = 0 ∧ (300 < (eitherR L (rs i)).2.size ∨ 16 < (eitherR L (rs i)).2.depth) then ((eitherR L (rs i)).1.fail 4 i, (eitherR L (rs i)).2) else eitherR L (rs i) := by
    rw [Int.toNat_natCast]; unfold readR; rw [if_neg (by simp)]
  unfold tokensV
  rw [if_neg hz]
  refine ⟨fun he => ?_, fun he hb => ?_, fun he hb => ?_⟩
  · rw [if_neg (fun e => he e.1)] at hr
    rw [hr, if_pos he]
  · have hf : (eitherR L (rs i)).1.fail 4 i = ⟨(eitherR L (rs i)).1.at', 4, i⟩ := by unfold Rs.fail; rw [if_pos he]
    rw [if_pos ⟨he, hb⟩, hf] at hr
    rw [hr, if_pos (by simp)]
  · rw [if_neg (fun e => hb e.2)] at hr
    rw [hr, if_neg (by simp [he])]
theorem below_setEx {B b : Nat} {a w : World} (h : Below B a w) (hb : B ≤ b) (d : Nd) (u v : Value) : Below B a (setEx w b d u v) := by
  unfold setEx
  exact (((((h.setCell (p := ⟨b, 0, none⟩) hb _).setCell (p := ⟨b, 1, none⟩) hb _).setCell (p := ⟨b, 2, none⟩) hb _).setCell (p := ⟨b, 3, none⟩) hb _).setCell (p := ⟨b, 4, none⟩) hb _).setCell (p := ⟨b, 5, none⟩) hb _
theorem ex0 (S : Nat → Prop) (w : World) : ExS S w (exV n0 (.slice none 0 0) (.slice none 0 0)) e0 := ex_leaf S w n0 rfl
theorem TokensOut.drew {V : Ex × Nat × Nat × Int} {w W : World} {e : Ending} (h : TokensOut V w e W) : TokensOut V w e W.drew := by
  obtain ⟨u, h1, h2, h3⟩ := h
  exact ⟨u, h1, h2.frame fun b hb _ => ⟨hb, rfl⟩, below_drewN h3 1⟩
abbrev rdo (v : Value) (i : Nat) : Obj := .cells #[v, .int .i64 i, .int .i64 0] 73
/-- A new reader. -/
theorem rd_new {w : World} {v : Value} {L : List Tk} (i : Nat) (h : TksAt w v L) (hO : OpsAt w) (hi : i ≤ L.length) (hl : L.length ≤ 500000) (hw : ∀ j, (Lx.tk L j).t.length ≤ 9223372036854775807) : RdAt (w.heap.size + 1) (w.alloc (rdo v i)) w.heap.size v L (i, 0) := by
  have al := alloc_at w (rdo v i)
  have ht : TksB (w.heap.size + 1) w.heap.size (w.alloc (rdo v i)) v L := by
    obtain ⟨p, c, hv, hc, hp⟩ := h
    refine ⟨p, c, hv, hc, fun h0 => ?_⟩
    obtain ⟨b, off, e, hh⟩ := hp h0
    have hlt : b < w.heap.size := World.block_lt_of_cell? _ _ (hh 0 h0).1
    refine ⟨b, off, e, by omega, by omega, fun j hj => ?_⟩
    obtain ⟨g0, g1, g2, g3⟩ := hh j hj
    have hb := al.block b hlt
    exact ⟨cell_same g0 fun _ => hb, cell_same g1 fun _ => hb, cell_same g2 fun _ => hb, cell_same g3 fun _ => hb⟩
  exact ⟨Nat.lt_succ_self _, by simp, by simp, by simp, by simp, by simp, by simp, ht, hO.keep al, hO.lt, hi, hl, hw⟩
set_option maxRecDepth 8000 in
set_option maxHeartbeats 16000000 in
theorem tokens_out (v : Value) (L : List Tk) (i : Int) (w : World) (h : TksAt w v L) (hl : L.length ≤ 500000) (hi : i < 0 ∨ (L.length : Int) < i) :
    Calls Tryz.prog 30 #[v, .int .i64 i] w (TokensOut (tokensV (toks L) i) w) := by
  rw [tokensV_out (toks L) i (by rw [toks_len]; exact hi)]
  have al := alloc_at w zx
  have X0 := XF.new w n0 (.slice none 0 0) (.slice none 0 0)
  have hset := Lib.hid (X0.set n0 (.slice none 0 0) (.slice none 0 0))
  have hB := Lib.hid (below_setEx al (Nat.le_refl w.heap.size) n0 (.slice none 0 0) (.slice none 0 0))
  obtain ⟨p, c, rfl, _, _⟩ := h
  generalize L.length = n at *
  have hfin := Lib.hid (show ∀ W, Below w.heap.size w W → TokensOut (e0, 0, 0, 1) w (.returned (.tuple #[exV n0 (.slice none 0 0) (.slice none 0 0), .int .i64 0, .int .i64 0, .int .i64 1])) W from fun W h => ⟨_, rfl, ex0 _ _, h⟩)
  have hzx : (Obj.cells #[.int .i64 0, .string { data := #[] }, .slice none 0 0, .int .i64 0, .int .i64 0, .slice none 0 0] 25) = zx := rfl
  by_cases h0 : i < 0
  · have t1 : decide (i < 0) = true := decide_eq_true h0
    clear hi
    go_enter Tryz.func30, Tryz.ntmps30
    go_upto_region 1 with fail
    obtain ⟨b4, hb4⟩ : ∃ b, w.heap.size = b := ⟨_, rfl⟩
    rw [hb4] at X0 hset hB hfin ⊢
    clear hb4 al
    generalize w.alloc zx = W0 at *
    clear hzx h0
    obtain ⟨⟨_, y0, y1, y2, y3, y4, y5⟩, f0, f1, f2, f3, f4, f5⟩ := X0
    go_wp2_with fail
    refine (show bodyPost _ _ _ _ _ (setEx W0 b4 n0 (.slice none 0 0) (.slice none 0 0)) from ?_)
    clear y0 y1 y2 y3 y4 y5 f0 f1 f2 f3 f4 f5
    generalize setEx W0 b4 n0 (.slice none 0 0) (.slice none 0 0) = W9 at *
    obtain ⟨_, q0, q1, q2, q3, q4, q5⟩ := hset.out
    exact bodyPost_ret (v := .tuple #[exV n0 (.slice none 0 0) (.slice none 0 0), .int .i64 0, .int .i64 0, .int .i64 1]) (by simp [results, Tryz.results30, go_sem, q0, q1, q2, q3, q4, q5, exV]) rfl (hfin.out _ hB.out)
  · have t1 : decide (i < 0) = false := decide_eq_false h0
    have t2 : decide ((n : Int) < i) = true := by simp; omega
    clear hi
    go_enter Tryz.func30, Tryz.ntmps30
    go_upto_region 1 with fail
    obtain ⟨b4, hb4⟩ : ∃ b, w.heap.size = b := ⟨_, rfl⟩
    rw [hb4] at X0 hset hB hfin ⊢
    clear hb4 al
    generalize w.alloc zx = W0 at *
    clear hzx h0
    obtain ⟨⟨_, y0, y1, y2, y3, y4, y5⟩, f0, f1, f2, f3, f4, f5⟩ := X0
    go_wp2_with fail
    refine (show bodyPost _ _ _ _ _ (setEx W0 b4 n0 (.slice none 0 0) (.slice none 0 0)) from ?_)
    clear y0 y1 y2 y3 y4 y5 f0 f1 f2 f3 f4 f5
    generalize setEx W0 b4 n0 (.slice none 0 0) (.slice none 0 0) = W9 at *
    obtain ⟨_, q0, q1, q2, q3, q4, q5⟩ := hset.out
    exact bodyPost_ret (v := .tuple #[exV n0 (.slice none 0 0) (.slice none 0 0), .int .i64 0, .int .i64 0, .int .i64 1]) (by simp [results, Tryz.results30, go_sem, q0, q1, q2, q3, q4, q5, exV]) rfl (hfin.out _ hB.out)
set_option maxRecDepth 8000 in
set_option maxHeartbeats 16000000 in
theorem tokens_in (v : Value) (L : List Tk) (i : Nat) (w : World) (h : TksAt w v L) (hO : OpsAt w) (hl : L.length ≤ 500000) (hw : ∀ j, (Lx.tk L j).t.length ≤ 9223372036854775807) (hi : i ≤ L.length) :
    Calls Tryz.prog 30 #[v, .int .i64 i] w (TokensOut (tokensV (toks L) i) w) := by
  obtain ⟨hv1, hv2, hv3⟩ := tokensV_in (toks L) i (by rw [toks_len]; exact hi)
  have al := alloc_at w zx
  have X0 := Lib.hid (XF.new w n0 (.slice none 0 0) (.slice none 0 0))
  have T0 := Lib.hid (h.below al)
  have O0 := Lib.hid (hO.keep al)
  have hsm := Lib.hid (either_small (toks L) (rs i))
  have hN := Lib.hid (fun W h hO => @rd_new W v L i h hO hi hl hw)
  have hst := Lib.hid (step_either (toks L) (rs i))
  have cJ := Lib.hid (fun B d w h => joined_all B d v L i w h)
  obtain ⟨p, c, rfl, _, _⟩ := h
  obtain ⟨n, hn⟩ : ∃ n, L.length = n := ⟨_, rfl⟩
  have hn' := Lib.hid hn
  rw [hn] at T0 hl hN hi cJ ⊢
  have hv1' := Lib.hid hv1
  have hv2' := Lib.hid hv2
  have hv3' := Lib.hid hv3
  generalize tokensV (toks L) i = V at *
  generalize eitherR (toks L) (rs i) = Y at *
  clear hv1 hv2 hv3 hw hO hn
  have t1 : decide ((i : Int) < 0) = false := by simp
  have t2 : decide ((n : Int) < (i : Int)) = false := by simp; omega
  have t3 : decide (n < i) = false := by simp; omega
  have hzx : (Obj.cells #[.int .i64 0, .string { data := #[] }, .slice none 0 0, .int .i64 0, .int .i64 0, .slice none 0 0] 25) = zx := rfl
  go_enter Tryz.func30, Tryz.ntmps30
  go_upto_region 1 with fail
  obtain ⟨b4, hb4⟩ : ∃ b, w.heap.size = b := ⟨_, rfl⟩
  rw [hb4] at X0 al ⊢
  have hb4' := Lib.hid hb4
  have B0 := Lib.hid al
  clear hzx al hb4
  generalize w.alloc zx = W0 at *
  go_upto_region 4 with fail
  have R1 := Lib.hid (hN.out W0 T0.out O0.out)
  have al := alloc_at W0 (rdo (.slice p n c) i)
  have X1 := Lib.hid (X0.out.keep al)
  have hs0 : b4 < W0.heap.size := X0.out.at_.1
  have B1 := Lib.hid (B0.out.alloc (show b4 ≤ W0.heap.size by omega) (rdo (.slice p n c) i))
  obtain ⟨d, hd⟩ : ∃ d, W0.heap.size = d := ⟨_, rfl⟩
  rw [hd] at R1 hs0 ⊢
  clear hd al hN T0 O0 X0 B0
  generalize W0.alloc (rdo (.slice p n c) i) = W1 at *
  go_wp2_with fail
  refine (cJ.out (d + 1) d W1 R1.out).mono ?_; rintro e w2 hrd
  obtain ⟨y, q1, q2, n1, c1, n2, c2, rfl, hR, hE, hK⟩ := rd_split hrd
  have al := alloc_at w2 (xo y.d (.slice q1 n1 c1) (.slice q2 n2 c2))
  have R3 := Lib.hid (hR.keep al)
  have hs2 := hK.size
  have hd1 := R1.out.le
  have K3 := Lib.hid (hK.trans (Kept.of_below al))
  have X3 := (X1.out.kept hK (by omega)).keep al
  have B3 := Lib.hid (B1.out.trans (K3.out.below (B := b4) (by omega) (by omega)))
  have E3 := Lib.hid (fun he => (⟨(hE he).1, ((hE he).2.1.mono (T := fun b => b4 < b) (fun b hb _ => by omega)).below al, ((hE he).2.2.mono (T := fun b => b4 < b) (fun b hb _ => by omega)).below al⟩ : y = Y.2 ∧ StrsS (fun b => b4 < b) (w2.alloc (xo y.d (.slice q1 n1 c1) (.slice q2 n2 c2))) (.slice q1 n1 c1) y.d.ws ∧ FoS (fun b => b4 < b) (w2.alloc (xo y.d (.slice q1 n1 c1) (.slice q2 n2 c2))) (.slice q2 n2 c2) y.kids))
  have Y3 := XAt.new w2 y.d (.slice q1 n1 c1) (.slice q2 n2 c2)
  clear hR hE hK hrd al X1 R1 B1 K3 cJ
  unfold exV
  go_upto_region 5 with fail
  obtain ⟨b9, hb9⟩ : ∃ b, w2.heap.size = b := ⟨_, rfl⟩
  rw [hb9] at Y3 hs2 ⊢
  clear hb9
  generalize w2.alloc (xo y.d (.slice q1 n1 c1) (.slice q2 n2 c2)) = W3 at *
  have z1 := R3.out.c1
  have z2 := R3.out.c2
  by_cases he : Y.1.e = 0
  · rw [sim_ok he] at z1 z2
    simp only at z1 z2
    obtain ⟨e1, e2, e3⟩ := E3.out he
    have hidx := R3.out.idx
    rw [sim_ok he] at hidx
    have hx : ExS (fun b => b4 < b) W3 (exV y.d (.slice q1 n1 c1) (.slice q2 n2 c2)) Y.2 := by rw [← e1]; exact ⟨_, _, rfl, e2, e3⟩
    have hXs := Lib.hid hx
    have hsz : Y.2.size ≤ 500000 := by have := hsm.out he; have := hn'.out; simp only at hidx; omega
    have hdp : Y.2.depth ≤ 500000 := by have := Fo.deep_le_sizes Y.2.kids; unfold Ex.size at hsz; unfold Ex.depth; omega
    have cS := Lib.hid (size_any 500000 Y.2 _ W3 hsz (by decide) hx.at)
    have cD := Lib.hid (fun W (hb : Below W3.heap.size W3 W) => depth_any 500000 Y.2 _ W hsz (by decide) (hx.at.below hb))
    have hbig := Lib.hid (hv2'.out he)
    have hok := Lib.hid (hv3'.out he)
    have Y3' := Lib.hid Y3
    have X3' := Lib.hid X3
    obtain ⟨_, x0, x1, x2, x3, x4, x5⟩ := Y3
    unfold exV at cS cD
    clear hv1' hv2' hv3' hx hsm hidx e1 e2 e3 E3 he
    generalize Y.2.size = sz at *
    generalize Y.2.depth = dp at *
    generalize Y.1.at' = na at *
    by_cases h3 : 300 < sz
    · have u1 : decide ((300 : Int) < (sz : Int)) = true := by simp; omega
      have u2 : decide (300 < sz) = true := by simp; omega
      have hV := Lib.hid (hbig.out (.inl h3))
      clear hbig hok cD hXs h3
      go_wp2_with fail
      refine cS.out.mono ?_; rintro e w4 ⟨rfl, hB4⟩
      have X4 := X3'.out.keep hB4
      have hf := Lib.hid (show TokensOut V w (.returned (.tuple #[exV n0 (.slice none 0 0) (.slice none 0 0), .int .i64 0, .int .i64 (i : Int), .int .i64 4])) (setEx w4 b4 n0 (.slice none 0 0) (.slice none 0 0)) from by
        rw [hV.out]; exact ⟨_, rfl, ex0 _ _, by rw [hb4'.out]; exact below_setEx (B3.out.trans (hB4.mono (by have := X3'.out.at_.1; omega))) (Nat.le_refl _) _ _ _⟩)
      have hset := Lib.hid (X4.set n0 (.slice none 0 0) (.slice none 0 0))
      obtain ⟨⟨_, y0, y1, y2, y3, y4, y5⟩, f0, f1, f2, f3, f4, f5⟩ := X4
      clear hB4 cS hV B3 R3 X3 X3' Y3' z1 z2 x0 x1 x2 x3 x4 x5
      go_wp2_with fail
      refine (show bodyPost _ _ _ _ _ (setEx w4 b4 n0 (.slice none 0 0) (.slice none 0 0)) from ?_)
      clear y0 y1 y2 y3 y4 y5 f0 f1 f2 f3 f4 f5
      generalize setEx w4 b4 n0 (.slice none 0 0) (.slice none 0 0) = W9 at *
      obtain ⟨_, q0, q1', q2', q3, q4, q5⟩ := hset.out
      exact bodyPost_ret (v := .tuple #[exV n0 (.slice none 0 0) (.slice none 0 0), .int .i64 0, .int .i64 (i : Int), .int .i64 4]) (by simp [results, Tryz.results30, go_sem, q0, q1', q2', q3, q4, q5, exV]) rfl hf.out
    · have s1 : decide ((300 : Int) < (sz : Int)) = false := by simp; omega
      have s2 : decide (300 < sz) = false := by simp; omega
      go_wp2_with fail
      refine cS.out.mono ?_; rintro e w4 ⟨rfl, hB4⟩
      clear x0 x1 x2 x3 x4 x5
      have X4 := Lib.hid (X3'.out.keep hB4)
      have hb4s : b4 ≤ W3.heap.size := by have := X3'.out.at_.1; omega
      have B4 := Lib.hid (B3.out.trans (hB4.mono hb4s))
      have R4 := Lib.hid (R3.out.keep hB4)
      have cD4 := Lib.hid (cD.out w4 hB4)
      have S4 := Lib.hid (hXs.out.below hB4)
      obtain ⟨h9, x0, x1, x2, x3, x4, x5⟩ := Y3'.out.keep hB4
      have Y4 := Lib.hid (show XAt w4 b9 y.d (.slice q1 n1 c1) (.slice q2 n2 c2) from ⟨h9, x0, x1, x2, x3, x4, x5⟩)
      have z1' := Lib.hid (cell_same (w' := w4) z1 (fun h => hB4.block d h))
      clear hB4 cS B3 R3 X3 X3' Y3' z1 z2 cD hXs
      by_cases h4 : 16 < dp
      · have u1 : decide ((16 : Int) < (dp : Int)) = true := by simp; omega
        have u2 : decide (16 < dp) = true := by simp; omega
        have hV := Lib.hid (hbig.out (.inr h4))
        clear hbig hok h3 h4 S4 R4
        go_wp2_with fail
        refine cD4.out.mono ?_; rintro e w5 ⟨rfl, hB5⟩
        have X5 := X4.out.keep hB5
        have hf := Lib.hid (show TokensOut V w (.returned (.tuple #[exV n0 (.slice none 0 0) (.slice none 0 0), .int .i64 0, .int .i64 (i : Int), .int .i64 4])) (setEx w5 b4 n0 (.slice none 0 0) (.slice none 0 0)) from by
          rw [hV.out]; exact ⟨_, rfl, ex0 _ _, by rw [hb4'.out]; exact below_setEx (B4.out.trans (hB5.mono (by have := X4.out.at_.1; omega))) (Nat.le_refl _) _ _ _⟩)
        have hset := Lib.hid (X5.set n0 (.slice none 0 0) (.slice none 0 0))
        obtain ⟨⟨_, y0, y1, y2, y3, y4, y5⟩, f0, f1, f2, f3, f4, f5⟩ := X5
        clear hB5 cD4 hV B4 X4 Y4 x0 x1 x2 x3 x4 x5
        go_wp2_with fail
        refine (show bodyPost _ _ _ _ _ (setEx w5 b4 n0 (.slice none 0 0) (.slice none 0 0)) from ?_)
        clear y0 y1 y2 y3 y4 y5 f0 f1 f2 f3 f4 f5
        generalize setEx w5 b4 n0 (.slice none 0 0) (.slice none 0 0) = W9 at *
        obtain ⟨_, q0, q1', q2', q3, q4, q5⟩ := hset.out
        exact bodyPost_ret (v := .tuple #[exV n0 (.slice none 0 0) (.slice none 0 0), .int .i64 0, .int .i64 (i : Int), .int .i64 4]) (by simp [results, Tryz.results30, go_sem, q0, q1', q2', q3, q4, q5, exV]) rfl hf.out
      · have u1 : decide ((16 : Int) < (dp : Int)) = false := by simp; omega
        have u2 : decide (16 < dp) = false := by simp; omega
        have hV := Lib.hid (hok.out (by omega))
        clear hbig hok h3 h4
        go_wp2_with fail
        refine cD4.out.mono ?_; rintro e w5 ⟨rfl, hB5⟩
        clear x0 x1 x2 x3 x4 x5
        have X5 := X4.out.keep hB5
        have z1 := cell_same (w' := w5) z1'.out (fun h => hB5.block d h)
        have hf := Lib.hid (show TokensOut V w (.returned (.tuple #[exV y.d (.slice q1 n1 c1) (.slice q2 n2 c2), .int .i64 (na : Int), .int .i64 0, .int .i64 0])) (setEx w5 b4 y.d (.slice q1 n1 c1) (.slice q2 n2 c2)).drew from by
          rw [hV.out]; exact TokensOut.drew ⟨_, rfl, (S4.out.below hB5).frame fun b hb hl => ⟨by have := hb4'.out; omega, setEx_block _ _ _ _ _ _ (by omega)⟩, by rw [hb4'.out]; exact below_setEx (B4.out.trans (hB5.mono (by have := X4.out.at_.1; omega))) (Nat.le_refl _) _ _ _⟩)
        have hset := Lib.hid (X5.set y.d (.slice q1 n1 c1) (.slice q2 n2 c2))
        obtain ⟨_, x0, x1, x2, x3, x4, x5⟩ := Y4.out.keep hB5
        obtain ⟨⟨_, y0, y1, y2, y3, y4, y5⟩, f0, f1, f2, f3, f4, f5⟩ := X5
        clear hB5 cD4 hV B4 X4 Y4 S4 R4 hb4s hs2 hd1 hsz hdp hst z1' h9
        clear t1 t2 t3
        have hz9 : ∀ (W : World) (u1 : Value), W.cell? ⟨d, 1, none⟩ = some (.int .i64 (na : Int)) → (W.setCell ⟨b4, 1, none⟩ u1).cell? ⟨d, 1, none⟩ = some (.int .i64 (na : Int)) := fun W u1 h => by
          rw [World.cell?_setCell_other _ _ _ _ (by intro e; simp only [Addr.mk.injEq] at e; omega)]; exact h
        have hz8 : ((w5.setCell ⟨b4, 0, none⟩ (.int .i64 y.d.op)).setCell ⟨b4, 1, none⟩ (.string (tx y.d.nm))).cell? ⟨d, 1, none⟩ = some (.int .i64 (na : Int)) := hz9 _ _ (by rw [World.cell?_setCell_other _ _ _ _ (by intro e; simp only [Addr.mk.injEq] at e; omega)]; exact z1)
        clear hz9 hs0
        go_wp2_with fail
        go_region
        refine (show Exit.then _ _ _ _ (setEx w5 b4 y.d (.slice q1 n1 c1) (.slice q2 n2 c2)).drew from ?_)
        clear y0 y1 y2 y3 y4 y5 f0 f1 f2 f3 f4 f5
        generalize setEx w5 b4 y.d (.slice q1 n1 c1) (.slice q2 n2 c2) = W9 at *
        obtain ⟨_, q0, q1', q2', q3, q4, q5⟩ := hset.out
        go_wp2_with fail
        exact bodyPost_ret (v := .tuple #[exV y.d (.slice q1 n1 c1) (.slice q2 n2 c2), .int .i64 (na : Int), .int .i64 0, .int .i64 0]) (by simp [results, Tryz.results30, go_sem, q0, q1', q2', q3, q4, q5, exV]) rfl hf.out
  · rw [sim_no he] at z1 z2
    simp only at z1 z2
    have hV := Lib.hid (hv1'.out he)
    have t5 : (Y.1.e != 0) = true := by simpa using he
    have t6 : (Y.1.e == 0) = false := by simpa using he
    have hf := Lib.hid (show TokensOut V w (.returned (.tuple #[exV n0 (.slice none 0 0) (.slice none 0 0), .int .i64 0, .int .i64 (Y.1.bad : Int), .int .i64 Y.1.e])) (setEx W3 b4 n0 (.slice none 0 0) (.slice none 0 0)).drew from by
      rw [hV.out]; exact TokensOut.drew ⟨_, rfl, ex0 _ _, by rw [hb4'.out]; exact below_setEx B3.out (Nat.le_refl _) _ _ _⟩)
    have hset := Lib.hid (X3.set n0 (.slice none 0 0) (.slice none 0 0))
    obtain ⟨⟨_, y0, y1, y2, y3, y4, y5⟩, f0, f1, f2, f3, f4, f5⟩ := X3
    clear hv1' hv2' hv3' hsm E3 he R3 B3 hV Y3
    generalize Y.1.e = ye at *
    generalize Y.1.bad = yb at *
    have hz1 : ((W3.setCell ⟨b4, 0, none⟩ (.int .i64 0)).setCell ⟨b4, 1, none⟩ (.string { data := #[] })).cell? ⟨d, 1, none⟩ = some (.int .i64 (yb : Int)) := by
      rw [World.cell?_setCell_other _ _ _ _ (by intro e; simp only [Addr.mk.injEq] at e; omega), World.cell?_setCell_other _ _ _ _ (by intro e; simp only [Addr.mk.injEq] at e; omega)]; exact z1
    have hz2 : (((W3.setCell ⟨b4, 0, none⟩ (.int .i64 0)).setCell ⟨b4, 1, none⟩ (.string { data := #[] })).setCell ⟨b4, 2, none⟩ (.slice none 0 0)).cell? ⟨d, 2, none⟩ = some (.int .i64 ye) := by
      rw [World.cell?_setCell_other _ _ _ _ (by intro e; simp only [Addr.mk.injEq] at e; omega), World.cell?_setCell_other _ _ _ _ (by intro e; simp only [Addr.mk.injEq] at e; omega), World.cell?_setCell_other _ _ _ _ (by intro e; simp only [Addr.mk.injEq] at e; omega)]; exact z2
    clear hs0 hst hs2 hd1
    go_wp2_with fail
    go_region
    refine (show Exit.then _ _ _ _ (setEx W3 b4 n0 (.slice none 0 0) (.slice none 0 0)).drew from ?_)
    clear y0 y1 y2 y3 y4 y5 f0 f1 f2 f3 f4 f5
    generalize setEx W3 b4 n0 (.slice none 0 0) (.slice none 0 0) = W9 at *
    obtain ⟨_, q0, q1', q2', q3, q4, q5⟩ := hset.out
    go_wp2_with fail
    exact bodyPost_ret (v := .tuple #[exV n0 (.slice none 0 0) (.slice none 0 0), .int .i64 0, .int .i64 (yb : Int), .int .i64 ye]) (by simp [results, Tryz.results30, go_sem, q0, q1', q2', q3, q4, q5, exV]) rfl hf.out
theorem tokens_any (v : Value) (L : List Tk) (i : Int) (w : World) (h : TksAt w v L) (hO : OpsAt w) (hl : L.length ≤ 500000) (hw : ∀ j, (Lx.tk L j).t.length ≤ 9223372036854775807) :
    Calls Tryz.prog 30 #[v, .int .i64 i] w (TokensOut (tokensV (toks L) i) w) := by
  by_cases hi : i < 0 ∨ (L.length : Int) < i
  · exact tokens_out v L i w h hl hi
  · obtain ⟨k, rfl⟩ : ∃ k : Nat, i = k := ⟨i.toNat, by omega⟩
    exact tokens_in v L k w h hO hl hw (by omega)
end Go.Proofs.YtjmipikahaoblaaGreatDoor.Syn
namespace Go.Proofs.YtjmipikahaoblaaGreatDoor.Lx
open Go.RowKit Go.Lib Go.Proofs.YtjmipikahaoblaaGreatDoor.Bas Go.Proofs.YtjmipikahaoblaaGreatDoor.Cal
set_option linter.unusedVariables false

/-- Tokens, an offset and an error. -/
def ScanOut (V : List Tk × Int × Int) (w : World) (e : Ending) (w' : World) : Prop := ∃ u, e = .returned (.tuple #[u, .int .i64 V.2.1, .int .i64 V.2.2]) ∧ TRow w.heap.size w' u V.1 ∧ Below w.heap.size w w'
theorem scan_far (s : ByteArray) (w : World) (h : 16384 < s.size) (hs : s.size ≤ 4611686018427387904) : Calls Tryz.prog 51 #[.string s] w (ScanOut (scanV (bl s)) w) := by
  rw [show scanV (bl s) = ([], 0, 4) by unfold scanV; rw [bl_size, if_pos h]]
  have t1 : decide ((16384 : Int) < (s.size : Int)) = true := by simp; omega
  have t2 : decide (16384 < s.size) = true := by simp; omega
  go_enter Tryz.func51, Tryz.ntmps51
  go_wp2_with fail
  go_step3
  go_wp2_with fail
  try any_goals (exfalso; omega; done)
  rw [Exit.noGoto_ret]
  go_ret3
  exact ⟨_, rfl, trow_nil _ _, Below.refl _ _⟩
theorem drop_at (s : ByteArray) (k : Nat) (h : k < s.size) : ((bl s).drop k).getD 0 0 = s[k] ∧ (bl s).drop k ≠ [] := by
  constructor
  · rw [List.getD_eq_getElem?_getD, List.getElem?_drop, Nat.add_zero, ← List.getD_eq_getElem?_getD, bl_get s k h]
  · intro e
    have := congrArg List.length e
    rw [List.length_drop, bl_size] at this
    simp at this; omega
theorem scan_blank (s : ByteArray) (k : Nat) (A : List Tk) (h : k < s.size) (hc : s[k].toNat = 32 ∨ s[k].toNat = 10) : scanL ((bl s).drop k) k A = scanL ((bl s).drop (k + 1)) (k + 1) A := by
  obtain ⟨h1, h2⟩ := drop_at s k h
  rw [scanL_step _ _ _ h2, h1, if_pos hc, List.drop_drop]
theorem scan_rem (s : ByteArray) (k : Nat) (A : List Tk) (h : k < s.size) (hc : s[k].toNat = 35) : scanL ((bl s).drop k) k A = scanL ((bl s).drop (k + spn inC ((bl s).drop k))) (k + spn inC ((bl s).drop k)) A ∧ 1 ≤ spn inC ((bl s).drop k) ∧ k + spn inC ((bl s).drop k) ≤ s.size := by
  obtain ⟨h1, h2⟩ := drop_at s k h
  refine ⟨?_, spnC_pos _ h2 (by rw [h1]; exact hc), ?_⟩
  · rw [scanL_step _ _ _ h2, h1, if_neg (by omega), if_pos hc, List.drop_drop]
  · have := spn_le inC ((bl s).drop k)
    rw [List.length_drop, bl_size] at this
    omega
theorem scan_tok (s : ByteArray) (k : Nat) (A : List Tk) (h : k < s.size) (hc : ¬ (s[k].toNat = 32 ∨ s[k].toNat = 10)) (hc2 : ¬ s[k].toNat = 35) (k1 : Int) (t1 : List UInt8) (n1 p1 : Int) (sz : Nat) (er : Int) (hx : firstV ((bl s).drop k) = (⟨k1, t1, n1, p1⟩, sz, er)) :
    (er ≠ 0 → scanL ((bl s).drop k) k A = ([], (k : Int), er)) ∧ (er = 0 → A.length = 4000 → scanL ((bl s).drop k) k A = ([], (k : Int), 4)) ∧
    (er = 0 → A.length ≠ 4000 → (k1 = 2 ∧ stp ((bl s).drop (k + sz)) = true) → scanL ((bl s).drop k) k A = ([], ((k + sz : Nat) : Int), 5)) ∧
    (er = 0 → A.length ≠ 4000 → ¬ (k1 = 2 ∧ stp ((bl s).drop (k + sz)) = true) → scanL ((bl s).drop k) k A = scanL ((bl s).drop (k + sz)) (k + sz) (A ++ [⟨k1, t1, n1, (k : Int)⟩])) ∧
    (er = 0 → 1 ≤ sz ∧ k + sz ≤ s.size) := by
  obtain ⟨h1, h2⟩ := drop_at s k h
  rw [scanL_step _ _ _ h2, h1, if_neg hc, if_neg hc2, hx, List.drop_drop]
  refine ⟨fun e => by rw [if_pos e], fun e a => by rw [if_neg (by simpa using e), if_pos a], fun e a b => by rw [if_neg (by simpa using e), if_neg a, if_pos b]; simp, fun e a b => by rw [if_neg (by simpa using e), if_neg a, if_neg b], fun e => ?_⟩
  have := first_size _ h2 (by rw [hx]; exact e)
  rw [hx, List.length_drop, bl_size] at this
  exact ⟨this.1, by have : sz ≤ s.size - k := this.2; omega⟩
/-- What stands behind a token. -/
theorem stp_at (s : ByteArray) (k : Nat) : (∀ h : k < s.size, stp ((bl s).drop k) = (ltr s[k] || decide (s[k].toNat = 45))) ∧ (¬ k < s.size → stp ((bl s).drop k) = false) := by
  constructor
  · intro h
    obtain ⟨h1, h2⟩ := drop_at s k h
    unfold stp
    rw [h1, decide_eq_true (by cases hd : (bl s).drop k with | nil => exact absurd hd h2 | cons c r => simp)]
    rfl
  · intro h
    have e : (bl s).drop k = [] := List.drop_of_length_le (by rw [bl_size]; omega)
    rw [e]; rfl

theorem token_two (w : World) (o : Obj) (k1 : Int) (t1 : List UInt8) (n1 p1 : Int) : TksAt ((w.alloc o).alloc (.cells #[.int .i64 k1, .string (tx t1), .int .i64 n1, .int .i64 p1] 71)) (.slice (some ⟨w.heap.size + 1, 0, none⟩) 1 1) [⟨k1, t1, n1, p1⟩] := by
  have := token_one (w.alloc o) ⟨k1, t1, n1, p1⟩
  rw [show (w.alloc o).heap.size = w.heap.size + 1 by simp] at this
  exact this
theorem noStp {k1 : Int} {b : Bool} (h : k1 ≠ 2) : ¬ (k1 = 2 ∧ b = true) := fun e => h e.1
set_option maxRecDepth 8000 in
set_option maxHeartbeats 16000000 in
theorem scan_near (s : ByteArray) (w : World) (hE : Env w) (h : s.size ≤ 16384) : Calls Tryz.prog 51 #[.string s] w (ScanOut (scanV (bl s)) w) := by
  rw [show scanV (bl s) = scanL ((bl s).drop 0) 0 [] by unfold scanV; rw [bl_size, if_neg (by omega), List.drop_zero]]
  obtain ⟨V, hV⟩ : ∃ V, scanL ((bl s).drop 0) 0 [] = V := ⟨_, rfl⟩
  rw [hV]
  have hV' := Lib.hid hV
  have hE' := Lib.hid hE
  have hbs := Lib.hid (bl_size s)
  have cB := Lib.hid (scan_blank s)
  have cR := Lib.hid (scan_rem s)
  have cT := Lib.hid (scan_tok s)
  have cS := Lib.hid (stp_at s)
  have cL := Lib.hid isLetter_any
  have t1 : decide ((16384 : Int) < (s.size : Int)) = false := by simp; omega
  have t2 : decide (16384 < s.size) = false := by simp; omega
  clear hV hE
  go_enter Tryz.func51, Tryz.ntmps51
  go_wp2_with fail
  go_step3
  go_wp2_with fail
  try any_goals (exfalso; omega; done)
  go_step3
  go_wp2_with fail
  go_loopw [5, 6] (fun x5 x6 wr => ∃ (A : List Tk) (k : Nat), x6 = .int .i64 k ∧ k ≤ s.size ∧ A.length ≤ 4000 ∧ Hid (scanL ((bl s).drop k) k A = V) ∧ Hid (TRow w.heap.size wr x5 A) ∧ Hid (Below w.heap.size w wr)) (fun _ i _ => s.size - (RowKit.intOf i).toNat)
  case atStart => exact ⟨[], 0, rfl, Nat.zero_le _, by simp, hV', Lib.hid (trow_nil _ _), Lib.hid (Below.refl _ _)⟩
  case round =>
    obtain ⟨A, k, rfl, hk, hA, hz, hR, hB⟩ := hrel
    by_cases hlt : k < s.size
    · by_cases h32 : s[k].toNat = 32
      · have u1 : ((s[k].toNat : Int) == 32) = true := by simp; omega
        have hz2 := Lib.hid (show scanL ((bl s).drop (k + 1)) (k + 1) A = V by rw [← cB.out k A hlt (.inl h32)]; exact hz.out)
        clear h32 hz
        go_wp2_with fail
        go_roundw
        case rel => exact ⟨A, k + 1, by go_num, by omega, hA, hz2, hR, hB⟩
        case measure => simp [RowKit.intOf]; omega
      · have u0 : ((s[k].toNat : Int) == 32) = false := by simp; omega
        by_cases h10 : s[k].toNat = 10
        · have u1 : ((s[k].toNat : Int) == 10) = true := by simp; omega
          have hz2 := Lib.hid (show scanL ((bl s).drop (k + 1)) (k + 1) A = V by rw [← cB.out k A hlt (.inr h10)]; exact hz.out)
          clear h32 h10 hz
          go_wp2_with fail
          go_roundw
          case rel => exact ⟨A, k + 1, by go_num, by omega, hA, hz2, hR, hB⟩
          case measure => simp [RowKit.intOf]; omega
        · have u1 : ((s[k].toNat : Int) == 10) = false := by simp; omega
          have hlk : (k : Int) ≤ (s.size : Int) := by omega
          have hsx : (s.extract k s.size).size = s.size - k := by rw [ByteArray.size_extract]; omega
          have hsx' := Lib.hid hsx
          clear hsx
          have e1 : ∀ w, (Instr.slice 9 (.string s) (some (.int .i64 (k : Int))) none none).run Tryz.prog w = .ok (.string (s.extract k s.size)) w := fun w => by
            rw [run_slice_string_l w _ s Tryz.underlying9 .i64 (k : Int) (by omega) hlk, Int.toNat_natCast]
          by_cases h35 : s[k].toNat = 35
          · have u2 : ((s[k].toNat : Int) == 35) = true := by simp; omega
            obtain ⟨r1, r2, r3⟩ := cR.out k A hlt h35
            have cP := Lib.hid (fun w => span_inComment (s.extract k s.size) w (by rw [hsx'.out]; omega))
            rw [bl_drop s k] at cP
            generalize spn inC ((bl s).drop k) = m at *
            have hz2 := Lib.hid (show scanL ((bl s).drop (k + m)) (k + m) A = V by rw [← r1]; exact hz.out)
            clear h32 h10 h35 hz r1
            go_wp2_with fail
            refine (cP.out _).mono ?_; rintro e w' ⟨rfl, rfl⟩
            go_wp2_with fail
            go_roundw
            case rel => exact ⟨A, k + m, by rw [show ((k + m : Nat) : Int) = (k : Int) + (m : Int) by omega], by omega, hA, hz2, hR, hB⟩
            case measure => simp [RowKit.intOf]; omega
          · have u2 : ((s[k].toNat : Int) == 35) = false := by simp; omega
            have cF := Lib.hid (fun w hE => first_any (s.extract k s.size) w hE (by rw [hsx'.out]; omega) (by rw [hsx'.out]; omega))
            rw [bl_drop s k] at cF
            have T0 := cT.out k A hlt (by omega) h35
            generalize firstV ((bl s).drop k) = x at *
            obtain ⟨⟨k1, t1, n1, p1⟩, sz, er⟩ := x
            have T1 := Lib.hid (T0 k1 t1 n1 p1 sz er rfl)
            have hEr := Lib.hid (hE'.out.keep hB.out)
            clear h32 h10 h35 T0
            go_wp2_with fail
            refine (cF.out _ hEr.out).mono ?_; rintro e W1 ⟨rfl, hB1⟩
            have R1 := Lib.hid (hR.out.keep hB1)
            have B1 := Lib.hid (hB.out.trans (hB1.mono hB.out.size))
            clear hB1 hR hB
            unfold tkV
            by_cases he : er = 0
            · have v1 : (er == 0) = true := by simp [he]
              have v2 : (er != 0) = false := by simp [he]
              obtain ⟨p0, c0, hv0, hcap, hpp⟩ := R1.out.at
              subst hv0
              clear hpp hcap
              by_cases h4 : A.length = 4000
              · have v3 : ((A.length : Int) == 4000) = true := by simp; omega
                have v3' : (A.length == 4000) = true := by simp; omega
                have hv : V = ([], (k : Int), 4) := by rw [← hz.out]; exact T1.out.2.1 he h4
                have hv' := Lib.hid hv
                clear he hv h4
                go_wp2_with fail
                rw [Exit.noGoto_ret]
                go_ret3
                exact ⟨.slice none 0 0, by rw [hv'.out]; rfl, by rw [hv'.out]; exact trow_nil _ _, B1.out.alloc B1.out.size _⟩
              · have v3 : ((A.length : Int) == 4000) = false := by simp; omega
                have v3' : (A.length == 4000) = false := by simp; omega
                have T2 := Lib.hid (T1.out.2.2.1 he h4)
                have T3 := Lib.hid (T1.out.2.2.2.1 he h4)
                obtain ⟨r2, r3⟩ := T1.out.2.2.2.2 he
                have hA2 : A.length + 1 ≤ 4000 := by omega
                clear he h4 T1
                obtain ⟨m, hm⟩ : ∃ m : Nat, k + sz = m := ⟨_, rfl⟩
                rw [hm] at T2 T3
                have hmi := Lib.hid (show (k : Int) + (sz : Int) = (m : Int) by omega)
                have hkm : k < m := by omega
                have hb9 : (k : Int) + (sz : Int) ≤ 16384 := by omega
                have hms : m ≤ s.size := by omega
                have cSm := Lib.hid (cS.out m)
                clear hm r2 r3 cS cT cR cB cF
                have K1 := (TkAt.new W1 ⟨k1, t1, n1, (k : Int)⟩).keep ((Below.refl (W1.alloc (.cells #[.int .i64 k1, .string (tx t1), .int .i64 n1, .int .i64 (k : Int)] 71)).heap.size _).alloc (Nat.le_refl _) (.cells #[.int .i64 k1, .string (tx t1), .int .i64 n1, .int .i64 (k : Int)] 71))
                have hbl := Lib.hid R1.out.block
                have B2 := Lib.hid ((B1.out.alloc B1.out.size (.cells #[.int .i64 k1, .string (tx t1), .int .i64 n1, .int .i64 (k : Int)] 71)).alloc (by have := B1.out.size; simp; omega) (.cells #[.int .i64 k1, .string (tx t1), .int .i64 n1, .int .i64 (k : Int)] 71))
                have cK := Lib.hid K1.2.1.1
                clear K1
                have hsz1 := B1.out.size
                go_wp2_with (at_builtin; refine wpList_append_tokens rfl (.tmp 53) (.tmp 55) rfl w.heap.size (.slice p0 A.length c0) A rfl ((R1.out.alloc _).alloc _) _ [⟨k1, t1, n1, (k : Int)⟩] rfl (token_two _ _ k1 t1 n1 (k : Int)) (by simp; omega) (by simp; omega) ?_; intro v' W3 hown hgrow; refine Hid.out ?_)
                refine Lib.hid ?_
                have R3 := Lib.hid hown
                have B3 := Lib.hid (B2.out.grown hgrow (by simp; omega) (fun g hg => (hbl.out g hg).1))
                have cK3 := Lib.hid (hgrow.cell cK.out (fun e => Nat.lt_irrefl _ (hbl.out _ e.symm).2))
                clear hown hgrow cK B2 R1 B1
                have hgot := cK3.out
                go_upto_region 20 with (fail)
                rw [hmi.out]
                clear hb9 hmi
                by_cases h2 : k1 = 2
                · have w1 : (k1 == 2) = true := by simp [h2]
                  by_cases hm2 : m < s.size
                  · have hst := cSm.out.1 hm2
                    have cLm := Lib.hid (cL.out s[m])
                    by_cases h45 : s[m].toNat = 45
                    · have w3 : ((s[m].toNat : Int) == 45) = true := by simp; omega
                      rw [decide_eq_true h45, Bool.or_true] at hst
                      have hv := T2.out ⟨h2, hst⟩
                      rw [hz.out] at hv
                      have hv' := Lib.hid hv
                      clear hv hst h45
                      generalize ltr s[m] = bL at *
                      cases bL
                      all_goals
                        go_wp2_with (refine (cLm.out _).mono ?_; rintro e w' ⟨rfl, rfl⟩)
                        rw [Exit.noGoto_ret]
                        go_ret3
                        exact ⟨.slice none 0 0, by rw [hv'.out]; rfl, by rw [hv'.out]; exact trow_nil _ _, B3.out⟩
                    · have w3 : ((s[m].toNat : Int) == 45) = false := by simp; omega
                      rw [decide_eq_false h45, Bool.or_false] at hst
                      cases hL : ltr s[m] with
                      | true =>
                        rw [hL] at cLm hst
                        have hv := T2.out ⟨h2, hst⟩
                        rw [hz.out] at hv
                        have hv' := Lib.hid hv
                        clear hv hst h45 hL
                        go_wp2_with (refine (cLm.out _).mono ?_; rintro e w' ⟨rfl, rfl⟩)
                        rw [Exit.noGoto_ret]
                        go_ret3
                        exact ⟨.slice none 0 0, by rw [hv'.out]; rfl, by rw [hv'.out]; exact trow_nil _ _, B3.out⟩
                      | false =>
                        rw [hL] at cLm hst
                        have hz2 := Lib.hid ((T3.out (fun e => by rw [hst] at e; cases e.2)).symm.trans hz.out)
                        clear hst h45 hL
                        go_wp2_with (refine (cLm.out _).mono ?_; rintro e w' ⟨rfl, rfl⟩)
                        go_roundw
                        case rel => exact ⟨A ++ [⟨k1, t1, n1, (k : Int)⟩], m, rfl, hms, by simp; omega, hz2, R3, B3⟩
                        case measure => simp [RowKit.intOf]; omega
                  · have hz2 := Lib.hid ((T3.out (fun e => by rw [cSm.out.2 hm2] at e; cases e.2)).symm.trans hz.out)
                    go_wp2_with fail
                    go_roundw
                    case rel => exact ⟨A ++ [⟨k1, t1, n1, (k : Int)⟩], m, rfl, hms, by simp; omega, hz2, R3, B3⟩
                    case measure => simp [RowKit.intOf]; omega
                · have w1 : (k1 == 2) = false := by simp [h2]
                  have hz2 := Lib.hid ((T3.out (noStp h2)).symm.trans hz.out)
                  clear h2
                  go_wp2_with fail
                  go_roundw
                  case rel => exact ⟨A ++ [⟨k1, t1, n1, (k : Int)⟩], m, rfl, hms, by simp; omega, hz2, R3, B3⟩
                  case measure => simp [RowKit.intOf]; omega
            · have v1 : (er == 0) = false := by simp [he]
              have v2 : (er != 0) = true := by simp [he]
              have hv : V = ([], (k : Int), er) := by rw [← hz.out]; exact T1.out.1 he
              have hv' := Lib.hid hv
              clear he hv
              go_wp2_with fail
              rw [Exit.noGoto_ret]
              go_ret3
              exact ⟨.slice none 0 0, by rw [hv'.out]; rfl, by rw [hv'.out]; exact trow_nil _ _, B1.out.alloc B1.out.size _⟩
    · obtain rfl : k = s.size := by omega
      have hv : V = (A, 0, 0) := by rw [← hz.out, List.drop_of_length_le (by rw [hbs.out]; omega)]; rfl
      have hv' := Lib.hid hv
      clear hv
      go_wp2_with fail
      rw [Exit.noGoto_ret]
      go_ret3
      exact ⟨u5, by rw [hv'.out]; rfl, by rw [hv'.out]; exact hR.out, hB.out⟩
end Go.Proofs.YtjmipikahaoblaaGreatDoor.Lx
namespace Go.Proofs.YtjmipikahaoblaaGreatDoor.Syn
open Go.RowKit Go.Lib Go.Proofs.YtjmipikahaoblaaGreatDoor.Bas Go.Proofs.YtjmipikahaoblaaGreatDoor.Cal Go.Proofs.YtjmipikahaoblaaGreatDoor.Lx Go.Proofs.YtjmipikahaoblaaGreatDoor.Sc Go.Proofs.YtjmipikahaoblaaGreatDoor.Dk
set_option linter.unusedVariables false

theorem first_len (l : List UInt8) : (firstV l).1.t.length ≤ l.length := by
  unfold firstV
  split
  · unfold wdV
    split
    · show (l.take _).length ≤ _
      rw [List.length_take]; omega
    · exact Nat.zero_le _
  · split
    · unfold numV
      split
      · exact Nat.zero_le _
      · split
        · exact Nat.zero_le _
        · exact Nat.zero_le _
    · split
      · unfold hrV
        split
        · exact Nat.zero_le _
        · exact Nat.zero_le _
      · split
        · show (l.take 1).length ≤ _
          rw [List.length_take]; omega
        · exact Nat.zero_le _
theorem scanF_bd (N : Nat) : ∀ (f : Nat) (l : List UInt8) (i : Nat) (A : List Tk), l.length ≤ N → A.length ≤ 4000 → (∀ x ∈ A, x.t.length ≤ N) → (scanF f l i A).1.length ≤ 4000 ∧ ∀ x ∈ (scanF f l i A).1, x.t.length ≤ N
  | 0, l, i, A, _, h1, h2 => ⟨h1, h2⟩
  | f + 1, l, i, A, hl, h1, h2 => by
    rw [scanF]
    split
    · exact ⟨h1, h2⟩
    · split
      · exact scanF_bd N f _ _ A (by rw [List.length_drop]; omega) h1 h2
      · split
        · exact scanF_bd N f _ _ A (by rw [List.length_drop]; omega) h1 h2
        · split
          · exact ⟨Nat.zero_le _, fun x hx => by simp at hx⟩
          · split
            · exact ⟨Nat.zero_le _, fun x hx => by simp at hx⟩
            · split
              · exact ⟨Nat.zero_le _, fun x hx => by simp at hx⟩
              · refine scanF_bd N f _ _ _ (by rw [List.length_drop]; omega) (by rw [List.length_append]; simp; omega) fun x hx => ?_
                rcases List.mem_append.1 hx with e | e
                · exact h2 x e
                · obtain rfl := List.mem_singleton.1 e
                  exact Nat.le_trans (first_len l) hl
theorem scanV_bd (l : List UInt8) : (scanV l).1.length ≤ 4000 ∧ ∀ j, (Lx.tk (scanV l).1 j).t.length ≤ 16384 := by
  have key : (scanV l).1.length ≤ 4000 ∧ ∀ x ∈ (scanV l).1, x.t.length ≤ 16384 := by
    unfold scanV
    split
    · exact ⟨Nat.zero_le _, fun x hx => by simp at hx⟩
    · exact scanF_bd 16384 _ l 0 [] (by omega) (by simp) (fun x hx => by simp at hx)
  refine ⟨key.1, fun j => ?_⟩
  by_cases h : j < (scanV l).1.length
  · exact key.2 _ (by unfold Lx.tk; rw [List.getD_eq_getElem?_getD, List.getElem?_eq_getElem h]; exact List.getElem_mem _)
  · have : Lx.tk (scanV l).1 j = z0 := by unfold Lx.tk; rw [List.getD_eq_getElem?_getD, List.getElem?_eq_none (by omega)]; rfl
    rw [this]; exact Nat.zero_le _
/-- Parse: the expression, an offset, an error. -/
def exprV (l : List UInt8) : Ex × Int × Int :=
  if (scanV l).2.2 ≠ 0 then (e0, (scanV l).2.1, (scanV l).2.2)
  else if (tokensV (toks (scanV l).1) 0).2.2.2 = 0 ∧ (tokensV (toks (scanV l).1) 0).2.1 < (scanV l).1.length then (e0, (Lx.tk (scanV l).1 (tokensV (toks (scanV l).1) 0).2.1).p, 5)
  else if (tokensV (toks (scanV l).1) 0).2.2.2 = 0 then ((tokensV (toks (scanV l).1) 0).1, 0, 0)
  else if (tokensV (toks (scanV l).1) 0).2.2.1 < (scanV l).1.length then (e0, (Lx.tk (scanV l).1 (tokensV (toks (scanV l).1) 0).2.2.1).p, (tokensV (toks (scanV l).1) 0).2.2.2)
  else (e0, l.length, (tokensV (toks (scanV l).1) 0).2.2.2)
/-- What package lexer and package syntax find in memory. -/
def EnvX (w : World) : Prop := Env w ∧ OpsAt w
theorem EnvX.keep {w w' : World} (h : EnvX w) (hb : Below w.heap.size w w') : EnvX w' := ⟨h.1.keep hb, h.2.keep hb⟩
theorem EnvX.drewN {w : World} (h : EnvX w) (n : Nat) : EnvX (w.drewN n) := ⟨h.1.drewN n, h.2.drewN n⟩
def ExprOut (V : Ex × Int × Int) (w : World) (e : Ending) (w' : World) : Prop := ∃ u, e = .returned (.tuple #[u, .int .i64 V.2.1, .int .i64 V.2.2]) ∧ ExS (fun b => w.heap.size ≤ b) w' u V.1 ∧ Below w.heap.size w w'
theorem ExprOut.drew {V : Ex × Int × Int} {w W : World} {e : Ending} (h : ExprOut V w e W) : ExprOut V w e W.drew := by
  obtain ⟨u, h1, h2, h3⟩ := h
  exact ⟨u, h1, h2.frame fun b hb _ => ⟨hb, rfl⟩, below_drewN h3 1⟩
/-- The shape of a row of tokens. -/
theorem trow_form {B : Nat} {w : World} {v : Value} {L : List Tk} (h : TRow B w v L) : ∃ p c, v = .slice p L.length c ∧ (0 < L.length → ∃ g, p = some ⟨g, 0, none⟩ ∧ B ≤ g ∧ g < w.heap.size ∧ ∀ i, i < L.length → w.cell? ⟨g, i * 4 + 3, none⟩ = some (.int .i64 (Lx.tk L i).p)) := by
  have hlt := World.ownsRow.lt h
  rcases h.2 with ⟨rfl, h1⟩ | ⟨g, cap, cur, rfl, hb, hg, hnc, _⟩
  · exact ⟨none, 0, by rw [h1], fun h => by omega⟩
  · refine ⟨_, cap, rfl, fun _ => ⟨g, rfl, hb, (hlt g rfl).2, fun i hi => ?_⟩⟩
    have := (flat4_at L i hi).2.2.2
    rw [tk_at L i hi, World.ownsRow.cellAt h (i * 4 + 3) (by omega)]
    exact this
end Go.Proofs.YtjmipikahaoblaaGreatDoor.Syn
namespace Go.Proofs.YtjmipikahaoblaaGreatDoor.Lx
open Go.RowKit Go.Lib Go.Proofs.YtjmipikahaoblaaGreatDoor.Bas Go.Proofs.YtjmipikahaoblaaGreatDoor.Cal
set_option linter.unusedVariables false

theorem scan_any (s : ByteArray) (w : World) (hE : Env w) (hs : s.size ≤ 4611686018427387904) : Calls Tryz.prog 51 #[.string s] w (ScanOut (scanV (bl s)) w) := by
  by_cases h : 16384 < s.size
  · exact scan_far s w h hs
  · exact scan_near s w hE (by omega)
/-- A bool; nothing of before has changed. -/
def BoolBe (b : Bool) (w : World) (e : Ending) (w' : World) : Prop := e = .returned (.bool b) ∧ Below w.heap.size w w'
end Go.Proofs.YtjmipikahaoblaaGreatDoor.Lx
namespace Go.Proofs.YtjmipikahaoblaaGreatDoor.Syn
open Go.RowKit Go.Lib Go.Proofs.YtjmipikahaoblaaGreatDoor.Bas Go.Proofs.YtjmipikahaoblaaGreatDoor.Cal Go.Proofs.YtjmipikahaoblaaGreatDoor.Lx Go.Proofs.YtjmipikahaoblaaGreatDoor.Sc Go.Proofs.YtjmipikahaoblaaGreatDoor.Dk
set_option linter.unusedVariables false

set_option maxRecDepth 8000 in
set_option maxHeartbeats 16000000 in
theorem parse_any (s : ByteArray) (w : World) (hE : EnvX w) (hs : s.size ≤ 4611686018427387904) : Calls Tryz.prog 28 #[.string s] w (ExprOut (exprV (bl s)) w) := by
  have al := alloc_at w zx
  have X0 := Lib.hid (XF.new w n0 (.slice none 0 0) (.slice none 0 0))
  have E0 := Lib.hid (hE.keep al)
  have hV : exprV (bl s) = exprV (bl s) := rfl
  conv at hV => rhs; unfold exprV
  obtain ⟨V, hVV⟩ : ∃ V, exprV (bl s) = V := ⟨_, rfl⟩
  rw [hVV] at hV ⊢
  rw [bl_size] at hV
  have cS := Lib.hid (fun w h => scan_any s w h hs)
  have hbd := Lib.hid (scanV_bd (bl s))
  have hssz : s.size ≤ 4611686018427387904 := hs
  generalize scanV (bl s) = C at *
  obtain ⟨L, ca, ce⟩ := C
  have cT := Lib.hid (fun v w hT hO => tokens_any v L 0 w hT hO (by have := hbd.out.1; simp only at this; omega) (fun j => by have := hbd.out.2 j; simp only at this; omega))
  simp only at hV
  have hV' := Lib.hid hV
  clear hV hVV hE hs
  generalize tokensV (toks L) 0 = T at *
  obtain ⟨x, next, bad, er⟩ := T
  simp only at hV'
  go_enter Tryz.func28, Tryz.ntmps28
  go_upto_region 1 with fail
  obtain ⟨b2, hb2⟩ : ∃ b, w.heap.size = b := ⟨_, rfl⟩
  rw [hb2] at X0 al ⊢
  have hb2' := Lib.hid hb2
  have B0 := Lib.hid al
  clear al hb2
  have hzx : (Obj.cells #[.int .i64 0, .string { data := #[] }, .slice none 0 0, .int .i64 0, .int .i64 0, .slice none 0 0] 25) = zx := rfl
  rw [hzx]
  generalize w.alloc zx = W0 at *
  clear hzx
  go_wp2_with fail
  refine (cS.out W0 E0.out.1).mono ?_; rintro e w1 ⟨u, rfl, hR, hB⟩
  have hs0 : b2 < W0.heap.size := X0.out.at_.1
  have X1 := Lib.hid (X0.out.keep hB)
  have E1 := Lib.hid (E0.out.keep hB)
  have B1 := Lib.hid (B0.out.trans (hB.mono (by omega)))
  have R1 := Lib.hid hR
  obtain ⟨p, c, rfl, _⟩ := trow_form hR
  clear hR hB X0 E0 B0 cS
  by_cases hce : ce = 0
  · subst hce
    rw [if_neg (by simp)] at hV'
    have cT1 := Lib.hid (cT.out _ w1 R1.out.at E1.out.2)
    unfold TokensOut at cT1
    have hL4 : L.length ≤ 4000 := hbd.out.1
    obtain ⟨n, hn⟩ : ∃ n, L.length = n := ⟨_, rfl⟩
    rw [hn] at hV' cT1 hL4 R1 ⊢
    have hn' := Lib.hid hn
    clear cT E1 hn hbd
    go_wp2_with fail
    refine cT1.out.mono ?_; rintro e w2 ⟨u, rfl, hX, hB⟩
    obtain ⟨uq, aq, rfl, ⟨q1, c1, rfl, hu1⟩, ⟨q2, c2, rfl, hu2⟩⟩ := hX
    have hX := Lib.hid (show ExS (fun b => w1.heap.size ≤ b) w2 (exV x.d (.slice q1 x.d.ws.length c1) (.slice q2 x.kids.len c2)) x from ⟨_, _, rfl, ⟨q1, c1, rfl, hu1⟩, ⟨q2, c2, rfl, hu2⟩⟩)
    clear hu1 hu2
    have hs1 : b2 < w1.heap.size := X1.out.at_.1
    have al := alloc_at w2 (xo x.d (.slice q1 x.d.ws.length c1) (.slice q2 x.kids.len c2))
    have hs2 := hB.size
    have X2 := Lib.hid ((X1.out.keep hB).keep al)
    have B2 := Lib.hid ((B1.out.trans (hB.mono (by omega))).trans (al.mono (by omega)))
    have Y2 := XAt.new w2 x.d (.slice q1 x.d.ws.length c1) (.slice q2 x.kids.len c2)
    have S2 := Lib.hid ((hX.out.mono (T := fun b => b2 < b) (fun b hb _ => by omega)).below al)
    have R2 := Lib.hid (show ∀ j, j < n → ∃ g, p = some ⟨g, 0, none⟩ ∧ b2 < g ∧ (w2.alloc (xo x.d (.slice q1 x.d.ws.length c1) (.slice q2 x.kids.len c2))).cell? ⟨g, j * 4 + 3, none⟩ = some (.int .i64 (Lx.tk L j).p) from fun j hj => by
      obtain ⟨p', c', hv, hp⟩ := trow_form R1.out
      rw [hn'.out] at hv hp
      obtain ⟨rfl, _, _⟩ := Value.slice.inj hv
      obtain ⟨g, rfl, hg1, hg2, hg3⟩ := hp (by omega)
      exact ⟨g, rfl, by omega, cell_same (cell_same (hg3 j hj) fun h => hB.block g h) fun h => al.block g h⟩)
    clear hB X1 B1 R1 hX cT1 al hs1
    unfold exV
    go_upto_region 5 with fail
    obtain ⟨b8, hb8⟩ : ∃ b, w2.heap.size = b := ⟨_, rfl⟩
    rw [hb8] at Y2 ⊢
    clear hb8 hs2
    generalize w2.alloc (xo x.d (.slice q1 x.d.ws.length c1) (.slice q2 x.kids.len c2)) = W2 at *
    generalize x.d.ws.length = nw at *
    generalize x.kids.len = nk at *
    by_cases hn2 : next < n
    · have u1 : decide ((next : Int) < (n : Int)) = true := by simp; omega
      have u2 : decide (next < n) = true := by simp; omega
      by_cases her : er = 0
      · -- a token behind the expression
        rw [if_pos ⟨her, hn2⟩] at hV'
        subst her
        obtain ⟨g, rfl, hg, hc⟩ := R2.out next hn2
        have hf := Lib.hid (show ExprOut V w (.returned (.tuple #[exV n0 (.slice none 0 0) (.slice none 0 0), .int .i64 (Lx.tk L next).p, .int .i64 5])) (setEx W2 b2 n0 (.slice none 0 0) (.slice none 0 0)).drew from by
          rw [hV'.out]; exact ExprOut.drew ⟨_, rfl, ex0 _ _, by rw [hb2'.out]; exact below_setEx B2.out (Nat.le_refl _) _ _ _⟩)
        have hset := Lib.hid (X2.out.set n0 (.slice none 0 0) (.slice none 0 0))
        have hz := fun (W : World) (o : Nat) (v : Value) (h : W.cell? ⟨g, next * 4 + 3, none⟩ = some (.int .i64 (Lx.tk L next).p)) => show (W.setCell ⟨b2, o, none⟩ v).cell? ⟨g, next * 4 + 3, none⟩ = some (.int .i64 (Lx.tk L next).p) from by
          rw [World.cell?_setCell_other _ _ _ _ (by intro e; simp only [Addr.mk.injEq] at e; omega)]; exact h
        have hw0 := hz W2 0 (.int .i64 0) hc
        have hw1 := hz _ 1 (.string { data := #[] }) hw0
        have hw2 := hz _ 2 (.slice none 0 0) hw1
        have hw3 := hz _ 3 (.int .i64 0) hw2
        have hw4 := hz _ 4 (.int .i64 0) hw3
        have hw5 := hz _ 5 (.slice none 0 0) hw4
        obtain ⟨⟨_, y0, y1, y2, y3, y4, y5⟩, f0, f1, f2, f3, f4, f5⟩ := X2.out
        clear hz hV' R2 S2 Y2 X2 B2 hg hs0
        generalize (Lx.tk L next).p = pp at *
        go_wp2_with fail
        go_region
        refine (show Exit.then _ _ _ _ (setEx W2 b2 n0 (.slice none 0 0) (.slice none 0 0)).drew from ?_)
        clear y0 y1 y2 y3 y4 y5 f0 f1 f2 f3 f4 f5
        generalize setEx W2 b2 n0 (.slice none 0 0) (.slice none 0 0) = W9 at *
        obtain ⟨_, q0, q1', q2', q3, q4, q5⟩ := hset.out
        go_wp2_with fail
        exact bodyPost_ret (v := .tuple #[exV n0 (.slice none 0 0) (.slice none 0 0), .int .i64 pp, .int .i64 5]) (by simp [results, Tryz.results28, go_sem, q0, q1', q2', q3, q4, q5, exV]) rfl hf.out
      · -- an error of its own, at a token or behind them
        have t5 : (er == 0) = false := by simpa using her
        rw [if_neg (fun e => her e.1)] at hV'
        by_cases hbad : bad < n
        · have u3 : decide ((bad : Int) < (n : Int)) = true := by simp; omega
          have u4 : decide (bad < n) = true := by simp; omega
          rw [if_neg her, if_pos hbad] at hV'
          obtain ⟨g, rfl, hg, hc⟩ := R2.out bad hbad
          have hf := Lib.hid (show ExprOut V w (.returned (.tuple #[exV n0 (.slice none 0 0) (.slice none 0 0), .int .i64 (Lx.tk L bad).p, .int .i64 er])) (setEx W2 b2 n0 (.slice none 0 0) (.slice none 0 0)).drew from by
            rw [hV'.out]; exact ExprOut.drew ⟨_, rfl, ex0 _ _, by rw [hb2'.out]; exact below_setEx B2.out (Nat.le_refl _) _ _ _⟩)
          have hset := Lib.hid (X2.out.set n0 (.slice none 0 0) (.slice none 0 0))
          have hz := fun (W : World) (o : Nat) (v : Value) (h : W.cell? ⟨g, bad * 4 + 3, none⟩ = some (.int .i64 (Lx.tk L bad).p)) => show (W.setCell ⟨b2, o, none⟩ v).cell? ⟨g, bad * 4 + 3, none⟩ = some (.int .i64 (Lx.tk L bad).p) from by
            rw [World.cell?_setCell_other _ _ _ _ (by intro e; simp only [Addr.mk.injEq] at e; omega)]; exact h
          have hw0 := hz W2 0 (.int .i64 0) hc
          have hw1 := hz _ 1 (.string { data := #[] }) hw0
          have hw2 := hz _ 2 (.slice none 0 0) hw1
          have hw3 := hz _ 3 (.int .i64 0) hw2
          have hw4 := hz _ 4 (.int .i64 0) hw3
          have hw5 := hz _ 5 (.slice none 0 0) hw4
          obtain ⟨⟨_, y0, y1, y2, y3, y4, y5⟩, f0, f1, f2, f3, f4, f5⟩ := X2.out
          clear hz hV' R2 S2 Y2 X2 B2 hg hs0 her
          generalize (Lx.tk L bad).p = pp at *
          go_wp2_with fail
          go_region
          refine (show Exit.then _ _ _ _ (setEx W2 b2 n0 (.slice none 0 0) (.slice none 0 0)).drew from ?_)
          clear y0 y1 y2 y3 y4 y5 f0 f1 f2 f3 f4 f5
          generalize setEx W2 b2 n0 (.slice none 0 0) (.slice none 0 0) = W9 at *
          obtain ⟨_, q0, q1', q2', q3, q4, q5⟩ := hset.out
          go_wp2_with fail
          exact bodyPost_ret (v := .tuple #[exV n0 (.slice none 0 0) (.slice none 0 0), .int .i64 pp, .int .i64 er]) (by simp [results, Tryz.results28, go_sem, q0, q1', q2', q3, q4, q5, exV]) rfl hf.out
        · have u3 : decide ((bad : Int) < (n : Int)) = false := by simp; omega
          have u4 : decide (bad < n) = false := by simp; omega
          rw [if_neg her, if_neg hbad] at hV'
          have hf := Lib.hid (show ExprOut V w (.returned (.tuple #[exV n0 (.slice none 0 0) (.slice none 0 0), .int .i64 (s.size : Int), .int .i64 er])) (setEx W2 b2 n0 (.slice none 0 0) (.slice none 0 0)) from by
            rw [hV'.out]; exact ⟨_, rfl, ex0 _ _, by rw [hb2'.out]; exact below_setEx B2.out (Nat.le_refl _) _ _ _⟩)
          have hset := Lib.hid (X2.out.set n0 (.slice none 0 0) (.slice none 0 0))
          obtain ⟨⟨_, y0, y1, y2, y3, y4, y5⟩, f0, f1, f2, f3, f4, f5⟩ := X2.out
          clear hV' R2 S2 Y2 X2 B2 hs0 her
          go_wp2_with fail
          refine (show bodyPost _ _ _ _ _ (setEx W2 b2 n0 (.slice none 0 0) (.slice none 0 0)) from ?_)
          clear y0 y1 y2 y3 y4 y5 f0 f1 f2 f3 f4 f5
          generalize setEx W2 b2 n0 (.slice none 0 0) (.slice none 0 0) = W9 at *
          obtain ⟨_, q0, q1', q2', q3, q4, q5⟩ := hset.out
          exact bodyPost_ret (v := .tuple #[exV n0 (.slice none 0 0) (.slice none 0 0), .int .i64 (s.size : Int), .int .i64 er]) (by simp [results, Tryz.results28, go_sem, q0, q1', q2', q3, q4, q5, exV]) rfl hf.out
    · have u1 : decide ((next : Int) < (n : Int)) = false := by simp; omega
      have u2 : decide (next < n) = false := by simp; omega
      rw [if_neg (fun e => hn2 e.2)] at hV'
      by_cases her : er = 0
      · rw [if_pos her] at hV'
        subst her
        have hf := Lib.hid (show ExprOut V w (.returned (.tuple #[exV x.d (.slice q1 nw c1) (.slice q2 nk c2), .int .i64 0, .int .i64 0])) (setEx W2 b2 x.d (.slice q1 nw c1) (.slice q2 nk c2)) from by
          rw [hV'.out]; exact ⟨_, rfl, S2.out.frame fun b hb hl => ⟨by have := hb2'.out; omega, setEx_block _ _ _ _ _ _ (by omega)⟩, by rw [hb2'.out]; exact below_setEx B2.out (Nat.le_refl _) _ _ _⟩)
        have hset := Lib.hid (X2.out.set x.d (.slice q1 nw c1) (.slice q2 nk c2))
        obtain ⟨_, z0, z1, z2, z3, z4, z5⟩ := Y2
        obtain ⟨⟨_, y0, y1, y2, y3, y4, y5⟩, f0, f1, f2, f3, f4, f5⟩ := X2.out
        clear hV' R2 S2 X2 B2 hs0
        go_wp2_with fail
        refine (show bodyPost _ _ _ _ _ (setEx W2 b2 x.d (.slice q1 nw c1) (.slice q2 nk c2)) from ?_)
        clear y0 y1 y2 y3 y4 y5 f0 f1 f2 f3 f4 f5
        generalize setEx W2 b2 x.d (.slice q1 nw c1) (.slice q2 nk c2) = W9 at *
        obtain ⟨_, q0, q1', q2', q3, q4, q5⟩ := hset.out
        exact bodyPost_ret (v := .tuple #[exV x.d (.slice q1 nw c1) (.slice q2 nk c2), .int .i64 0, .int .i64 0]) (by simp [results, Tryz.results28, go_sem, q0, q1', q2', q3, q4, q5, exV]) rfl hf.out
      · have t5 : (er == 0) = false := by simpa using her
        skip
        by_cases hbad : bad < n
        · have u3 : decide ((bad : Int) < (n : Int)) = true := by simp; omega
          have u4 : decide (bad < n) = true := by simp; omega
          rw [if_neg her, if_pos hbad] at hV'
          obtain ⟨g, rfl, hg, hc⟩ := R2.out bad hbad
          have hf := Lib.hid (show ExprOut V w (.returned (.tuple #[exV n0 (.slice none 0 0) (.slice none 0 0), .int .i64 (Lx.tk L bad).p, .int .i64 er])) (setEx W2 b2 n0 (.slice none 0 0) (.slice none 0 0)).drew from by
            rw [hV'.out]; exact ExprOut.drew ⟨_, rfl, ex0 _ _, by rw [hb2'.out]; exact below_setEx B2.out (Nat.le_refl _) _ _ _⟩)
          have hset := Lib.hid (X2.out.set n0 (.slice none 0 0) (.slice none 0 0))
          have hz := fun (W : World) (o : Nat) (v : Value) (h : W.cell? ⟨g, bad * 4 + 3, none⟩ = some (.int .i64 (Lx.tk L bad).p)) => show (W.setCell ⟨b2, o, none⟩ v).cell? ⟨g, bad * 4 + 3, none⟩ = some (.int .i64 (Lx.tk L bad).p) from by
            rw [World.cell?_setCell_other _ _ _ _ (by intro e; simp only [Addr.mk.injEq] at e; omega)]; exact h
          have hw0 := hz W2 0 (.int .i64 0) hc
          have hw1 := hz _ 1 (.string { data := #[] }) hw0
          have hw2 := hz _ 2 (.slice none 0 0) hw1
          have hw3 := hz _ 3 (.int .i64 0) hw2
          have hw4 := hz _ 4 (.int .i64 0) hw3
          have hw5 := hz _ 5 (.slice none 0 0) hw4
          obtain ⟨⟨_, y0, y1, y2, y3, y4, y5⟩, f0, f1, f2, f3, f4, f5⟩ := X2.out
          clear hz hV' R2 S2 Y2 X2 B2 hg hs0 her
          generalize (Lx.tk L bad).p = pp at *
          go_wp2_with fail
          go_region
          refine (show Exit.then _ _ _ _ (setEx W2 b2 n0 (.slice none 0 0) (.slice none 0 0)).drew from ?_)
          clear y0 y1 y2 y3 y4 y5 f0 f1 f2 f3 f4 f5
          generalize setEx W2 b2 n0 (.slice none 0 0) (.slice none 0 0) = W9 at *
          obtain ⟨_, q0, q1', q2', q3, q4, q5⟩ := hset.out
          go_wp2_with fail
          exact bodyPost_ret (v := .tuple #[exV n0 (.slice none 0 0) (.slice none 0 0), .int .i64 pp, .int .i64 er]) (by simp [results, Tryz.results28, go_sem, q0, q1', q2', q3, q4, q5, exV]) rfl hf.out
        · have u3 : decide ((bad : Int) < (n : Int)) = false := by simp; omega
          have u4 : decide (bad < n) = false := by simp; omega
          rw [if_neg her, if_neg hbad] at hV'
          have hf := Lib.hid (show ExprOut V w (.returned (.tuple #[exV n0 (.slice none 0 0) (.slice none 0 0), .int .i64 (s.size : Int), .int .i64 er])) (setEx W2 b2 n0 (.slice none 0 0) (.slice none 0 0)) from by
            rw [hV'.out]; exact ⟨_, rfl, ex0 _ _, by rw [hb2'.out]; exact below_setEx B2.out (Nat.le_refl _) _ _ _⟩)
          have hset := Lib.hid (X2.out.set n0 (.slice none 0 0) (.slice none 0 0))
          obtain ⟨⟨_, y0, y1, y2, y3, y4, y5⟩, f0, f1, f2, f3, f4, f5⟩ := X2.out
          clear hV' R2 S2 Y2 X2 B2 hs0 her
          go_wp2_with fail
          refine (show bodyPost _ _ _ _ _ (setEx W2 b2 n0 (.slice none 0 0) (.slice none 0 0)) from ?_)
          clear y0 y1 y2 y3 y4 y5 f0 f1 f2 f3 f4 f5
          generalize setEx W2 b2 n0 (.slice none 0 0) (.slice none 0 0) = W9 at *
          obtain ⟨_, q0, q1', q2', q3, q4, q5⟩ := hset.out
          exact bodyPost_ret (v := .tuple #[exV n0 (.slice none 0 0) (.slice none 0 0), .int .i64 (s.size : Int), .int .i64 er]) (by simp [results, Tryz.results28, go_sem, q0, q1', q2', q3, q4, q5, exV]) rfl hf.out
  · rw [if_pos hce] at hV'
    have t1 : (ce != 0) = true := by simpa using hce
    have t2 : (ce == 0) = false := by simpa using hce
    have hf := Lib.hid (show ExprOut V w (.returned (.tuple #[exV n0 (.slice none 0 0) (.slice none 0 0), .int .i64 ca, .int .i64 ce])) (setEx w1 b2 n0 (.slice none 0 0) (.slice none 0 0)) from by
      rw [hV'.out]; exact ⟨_, rfl, ex0 _ _, by rw [hb2'.out]; exact below_setEx B1.out (Nat.le_refl _) _ _ _⟩)
    have hset := Lib.hid (X1.out.set n0 (.slice none 0 0) (.slice none 0 0))
    obtain ⟨⟨_, y0, y1, y2, y3, y4, y5⟩, f0, f1, f2, f3, f4, f5⟩ := X1.out
    clear hV' R1 E1 X1 B1 cT hs0 hce
    go_wp2_with fail
    refine (show bodyPost _ _ _ _ _ (setEx w1 b2 n0 (.slice none 0 0) (.slice none 0 0)) from ?_)
    clear y0 y1 y2 y3 y4 y5 f0 f1 f2 f3 f4 f5
    generalize setEx w1 b2 n0 (.slice none 0 0) (.slice none 0 0) = W9 at *
    obtain ⟨_, q0, q1', q2', q3, q4, q5⟩ := hset.out
    exact bodyPost_ret (v := .tuple #[exV n0 (.slice none 0 0) (.slice none 0 0), .int .i64 ca, .int .i64 ce]) (by simp [results, Tryz.results28, go_sem, q0, q1', q2', q3, q4, q5, exV]) rfl hf.out
end Go.Proofs.YtjmipikahaoblaaGreatDoor.Syn
namespace Go.Proofs.YtjmipikahaoblaaGreatDoor.Syn
open Go.RowKit Go.Lib Go.Proofs.YtjmipikahaoblaaGreatDoor.Bas Go.Proofs.YtjmipikahaoblaaGreatDoor.Cal Go.Proofs.YtjmipikahaoblaaGreatDoor.Lx Go.Proofs.YtjmipikahaoblaaGreatDoor.Sc Go.Proofs.YtjmipikahaoblaaGreatDoor.Dk
set_option linter.unusedVariables false

def awT : List UInt8 := [97, 32, 111, 114, 32, 98, 32, 97, 110, 100, 32, 110, 111, 116, 32, 99]
def nmE (c : UInt8) : Nd := ⟨3, [c], [], 0, 0⟩
def awE : Ex := ⟨⟨8, [], [], 0, 0⟩, .cons (nmE 97) .nil (.cons ⟨7, [], [], 0, 0⟩ (.cons (nmE 98) .nil (.cons ⟨6, [], [], 0, 0⟩ (.cons (nmE 99) .nil .nil) .nil)) .nil)⟩
theorem aw_val : exprV awT = (awE, 0, 0) := by kernel_rfl
set_option maxRecDepth 8000 in
set_option maxHeartbeats 8000000 in
theorem awake_any (w : World) (hE : EnvX w) : Calls Tryz.prog 11 #[] w (Lx.BoolBe true w) := by
  have c := Lib.hid (parse_any { data := #[97, 32, 111, 114, 32, 98, 32, 97, 110, 100, 32, 110, 111, 116, 32, 99] } w hE (by decide))
  rw [show bl { data := #[97, 32, 111, 114, 32, 98, 32, 97, 110, 100, 32, 110, 111, 116, 32, 99] } = awT from rfl, aw_val] at c
  clear hE
  go_enter Tryz.func11, Tryz.ntmps11
  go_wp2_with fail
  refine c.out.mono ?_; rintro e w1 ⟨u, rfl, hX, hB⟩
  have hX0 := hX
  obtain ⟨uq, aq, rfl, ⟨q1, c1, rfl, _⟩, hF⟩ := hX
  have hF' := Lib.hid hF
  obtain ⟨q2, c2, rfl, _, _⟩ := hF
  have al := alloc_at w1 (xo awE.d (.slice q1 awE.d.ws.length c1) (.slice q2 awE.kids.len c2))
  have Y1 := XAt.new w1 awE.d (.slice q1 awE.d.ws.length c1) (.slice q2 awE.kids.len c2)
  have hF2 := hF'.out.below al
  have cS := Lib.hid (size_any 6 awE _ _ (by decide) (by decide) (hX0.at.below al))
  have B1 := Lib.hid (trans_b hB al)
  have hd : exV awE.d (.slice q1 awE.d.ws.length c1) (.slice q2 awE.kids.len c2) = .agg #[.int .i64 8, .string { data := #[] }, .slice q1 0 c1, .int .i64 0, .int .i64 0, .slice q2 2 c2] := rfl
  have ho : xo awE.d (.slice q1 awE.d.ws.length c1) (.slice q2 awE.kids.len c2) = .cells #[.int .i64 8, .string { data := #[] }, .slice q1 0 c1, .int .i64 0, .int .i64 0, .slice q2 2 c2] 25 := rfl
  obtain ⟨b, o, c', hv, _, _, _, _, _, k0, _⟩ := hF2.elem 0 (by decide)
  obtain ⟨b', o', c'', hv', _, _, _, _, k1, _⟩ := hF2.elem 1 (by decide)
  obtain ⟨rfl, hx0, rfl⟩ := Value.slice.inj hv
  obtain ⟨e1, hx1, hx2⟩ := Value.slice.inj hv'
  clear hx0 hx1 hx2
  simp only [Option.some.injEq, Addr.mk.injEq] at e1
  obtain ⟨rfl, rfl, _⟩ := e1
  have hsz : awE.size = 6 := by decide
  rw [hsz] at cS
  rw [ho] at k0 k1 Y1 cS B1
  rw [hd] at cS ⊢
  replace k0 : (w1.alloc (.cells #[.int .i64 8, .string { data := #[] }, .slice q1 0 c1, .int .i64 0, .int .i64 0, .slice (some ⟨b, o, none⟩) 2 c2] 25)).cell? ⟨b, o + 1, none⟩ = some (.string { data := #[97] }) := k0
  replace k1 : (w1.alloc (.cells #[.int .i64 8, .string { data := #[] }, .slice q1 0 c1, .int .i64 0, .int .i64 0, .slice (some ⟨b, o, none⟩) 2 c2] 25)).cell? ⟨b, o + 6, none⟩ = some (.int .i64 7) := k1
  obtain ⟨_, y0, y1, y2, y3, y4, y5⟩ := Y1
  replace y0 : (w1.alloc (.cells #[.int .i64 8, .string { data := #[] }, .slice q1 0 c1, .int .i64 0, .int .i64 0, .slice (some ⟨b, o, none⟩) 2 c2] 25)).cell? ⟨w1.heap.size, 0, none⟩ = some (.int .i64 8) := y0
  replace y1 : (w1.alloc (.cells #[.int .i64 8, .string { data := #[] }, .slice q1 0 c1, .int .i64 0, .int .i64 0, .slice (some ⟨b, o, none⟩) 2 c2] 25)).cell? ⟨w1.heap.size, 1, none⟩ = some (.string { data := #[] }) := y1
  replace y2 : (w1.alloc (.cells #[.int .i64 8, .string { data := #[] }, .slice q1 0 c1, .int .i64 0, .int .i64 0, .slice (some ⟨b, o, none⟩) 2 c2] 25)).cell? ⟨w1.heap.size, 2, none⟩ = some (.slice q1 0 c1) := y2
  replace y3 : (w1.alloc (.cells #[.int .i64 8, .string { data := #[] }, .slice q1 0 c1, .int .i64 0, .int .i64 0, .slice (some ⟨b, o, none⟩) 2 c2] 25)).cell? ⟨w1.heap.size, 3, none⟩ = some (.int .i64 0) := y3
  replace y4 : (w1.alloc (.cells #[.int .i64 8, .string { data := #[] }, .slice q1 0 c1, .int .i64 0, .int .i64 0, .slice (some ⟨b, o, none⟩) 2 c2] 25)).cell? ⟨w1.heap.size, 4, none⟩ = some (.int .i64 0) := y4
  replace y5 : (w1.alloc (.cells #[.int .i64 8, .string { data := #[] }, .slice q1 0 c1, .int .i64 0, .int .i64 0, .slice (some ⟨b, o, none⟩) 2 c2] 25)).cell? ⟨w1.heap.size, 5, none⟩ = some (.slice (some ⟨b, o, none⟩) 2 c2) := y5
  clear hX0 hF' hF2 hv hv' al hB hd ho hsz
  go_upto_region 2 with fail
  obtain ⟨b1, hb1⟩ : ∃ b, w1.heap.size = b := ⟨_, rfl⟩
  rw [hb1] at y0 y1 y2 y3 y4 y5 ⊢
  clear hb1
  generalize w1.alloc (.cells #[.int .i64 8, .string { data := #[] }, .slice q1 0 c1, .int .i64 0, .int .i64 0, .slice (some ⟨b, o, none⟩) 2 c2] 25) = W1 at *
  go_wp2_with fail
  refine cS.out.mono ?_; rintro e w2 ⟨rfl, hB2⟩
  have B2 := Lib.hid (trans_b B1.out hB2)
  clear hB2 cS B1
  go_wp2_with fail
  go_ret
  exact ⟨rfl, B2.out⟩
end Go.Proofs.YtjmipikahaoblaaGreatDoor.Syn
namespace Go.Proofs.YtjmipikahaoblaaGreatDoor.Sc
open Go.RowKit Go.Lib Go.Proofs.YtjmipikahaoblaaGreatDoor.Bas
set_option linter.unusedVariables false

def wi (x n : Int) : Int := (x.tmod n + n) % n
theorem wi_bd (x n : Int) (h : 0 < n) : 0 ≤ wi x n ∧ wi x n < n := ⟨Int.emod_nonneg _ (by omega), Int.emod_lt_of_pos _ h⟩
theorem within_any (x n : Int) (w : World) (x1 : -9223372036854775808 ≤ x) (x2 : x ≤ 9223372036854775807) (hn : 0 < n) (hn2 : n ≤ 17592186044416) :
    Calls Tryz.prog 33 #[.int .i64 x, .int .i64 n] w fun e w' => e = .returned (.int .i64 (wi x n)) ∧ w = w' := by
  have t3 : (n == 0) = false := by simp; omega
  have hb1 := Int.lt_tmod_of_pos x hn
  have hb2 := Int.tmod_lt_of_pos x hn
  go_enter Tryz.func33, Tryz.ntmps33
  go_wp2
  go_ret
  exact ⟨rfl, rfl⟩
end Go.Proofs.YtjmipikahaoblaaGreatDoor.Sc
namespace Go.Proofs.YtjmipikahaoblaaGreatDoor.Sc
open Go.RowKit Go.Lib Go.Proofs.YtjmipikahaoblaaGreatDoor.Bas Go.Proofs.YtjmipikahaoblaaGreatDoor.Cal Go.Proofs.YtjmipikahaoblaaGreatDoor.Lx
set_option linter.unusedVariables false

/-- Strings, attributes in blocks from B on. -/
def StrsIn (B : Nat) (w : World) (v : Value) (l : List (List UInt8)) : Prop :=
  ∃ p c, v = .slice p l.length c ∧ (l.length ≤ c ∧ (p = none → c = 0)) ∧ (0 < l.length → ∃ b off, p = some ⟨b, off, none⟩ ∧ B ≤ b ∧ ∀ j, j < l.length → w.cell? ⟨b, off + j, none⟩ = some (.string (tx (l.getD j []))))
theorem StrsIn.at {B : Nat} {w : World} {v : Value} {l : List (List UInt8)} (h : StrsIn B w v l) : StrsAt w v l := by
  obtain ⟨p, c, hv, hc, hp⟩ := h
  exact ⟨p, c, hv, hc, fun h0 => by obtain ⟨b, off, e, _, hh⟩ := hp h0; exact ⟨b, off, e, hh⟩⟩
theorem StrsIn.mono {B C : Nat} {w : World} {v : Value} {l : List (List UInt8)} (h : StrsIn B w v l) (hc : C ≤ B) : StrsIn C w v l := by
  obtain ⟨p, c, hv, hcc, hp⟩ := h
  exact ⟨p, c, hv, hcc, fun h0 => by obtain ⟨b, off, e, hb, hh⟩ := hp h0; exact ⟨b, off, e, by omega, hh⟩⟩
theorem strsIn_nil (B : Nat) (w : World) : StrsIn B w (.slice none 0 0) [] := ⟨none, 0, rfl, ⟨Nat.le_refl _, fun _ => rfl⟩, fun h => by simp at h⟩
theorem StrsIn.below {B : Nat} {w w' : World} {v : Value} {l : List (List UInt8)} (h : StrsIn B w v l) (hb : Below w.heap.size w w') : StrsIn B w' v l := by
  obtain ⟨p, c, hv, hcc, hp⟩ := h
  refine ⟨p, c, hv, hcc, fun h0 => ?_⟩
  obtain ⟨b, off, e, hB, hh⟩ := hp h0
  have hlt : b < w.heap.size := World.block_lt_of_cell? _ _ (hh 0 h0)
  exact ⟨b, off, e, hB, fun j hj => by rw [hb.cell (p := ⟨b, off + j, none⟩) hlt]; exact hh j hj⟩
theorem StrsIn.set {B b0 o : Nat} {w : World} {v : Value} {l : List (List UInt8)} (h : StrsIn B w v l) (hb : b0 < B) (x : Value) : StrsIn B (w.setCell ⟨b0, o, none⟩ x) v l := by
  obtain ⟨p, c, hv, hcc, hp⟩ := h
  refine ⟨p, c, hv, hcc, fun h0 => ?_⟩
  obtain ⟨b, off, e, hB, hh⟩ := hp h0
  exact ⟨b, off, e, hB, fun j hj => by rw [World.cell?_setCell_other _ _ _ _ (by intro e; simp only [Addr.mk.injEq] at e; omega)]; exact hh j hj⟩
def perilA : At := ⟨[112, 101, 114, 105, 108], 1, [[102, 105, 114, 101], [102, 108, 111, 111, 100], [119, 105, 110, 100], [116, 104, 101, 102, 116]], 0, 0⟩
set_option maxHeartbeats 4000000 in
theorem peril_any (w : World) : Calls Tryz.prog 57 #[] w fun e w' => ∃ u, e = .returned (AtV perilA u) ∧ StrsIn w.heap.size w' u perilA.ws ∧ Below w.heap.size w w' := by
  go_enter Tryz.func57, Tryz.ntmps57
  go_wp2_with fail
  exact bodyPost_ret (v := AtV perilA (.slice (some ⟨w.heap.size + 1, 0, none⟩) 4 4)) (by simp [results, Tryz.results57, go_sem, AtV, perilA, tx]) rfl ⟨_, rfl, ⟨_, 4, rfl, ⟨by decide, fun e => by cases e⟩, fun _ => ⟨w.heap.size + 1, 0, rfl, Nat.le_succ _, fun j hj => by
    have hj' : j < 4 := hj
    have hc : j = 0 ∨ j = 1 ∨ j = 2 ∨ j = 3 := by omega
    rcases hc with rfl | rfl | rfl | rfl
    · rw [← size_alloc1 w (.cells #[.string { data := #[112, 101, 114, 105, 108] }, .int .i64 1, .slice (some ⟨w.heap.size + 1, 0, none⟩) 4 4, .int .i64 0, .int .i64 0] 84)]; simp [perilA, tx]
    · rw [← size_alloc1 w (.cells #[.string { data := #[112, 101, 114, 105, 108] }, .int .i64 1, .slice (some ⟨w.heap.size + 1, 0, none⟩) 4 4, .int .i64 0, .int .i64 0] 84)]; simp [perilA, tx]
    · rw [← size_alloc1 w (.cells #[.string { data := #[112, 101, 114, 105, 108] }, .int .i64 1, .slice (some ⟨w.heap.size + 1, 0, none⟩) 4 4, .int .i64 0, .int .i64 0] 84)]; simp [perilA, tx]
    · rw [← size_alloc1 w (.cells #[.string { data := #[112, 101, 114, 105, 108] }, .int .i64 1, .slice (some ⟨w.heap.size + 1, 0, none⟩) 4 4, .int .i64 0, .int .i64 0] 84)]; simp [perilA, tx]⟩⟩, trans_b (alloc_at w _) (alloc_at _ _)⟩
end Go.Proofs.YtjmipikahaoblaaGreatDoor.Sc
namespace Go.Proofs.YtjmipikahaoblaaGreatDoor.Sc
open Go.RowKit Go.Lib Go.Proofs.YtjmipikahaoblaaGreatDoor.Bas Go.Proofs.YtjmipikahaoblaaGreatDoor.Cal Go.Proofs.YtjmipikahaoblaaGreatDoor.Lx
set_option linter.unusedVariables false

/-- The cells of attributes with these words' values. -/
def flat5 : List At → List Value → List Value
  | a :: L, u :: us => .string (tx a.nm) :: .int .i64 a.k :: u :: .int .i64 a.lo :: .int .i64 a.hi :: flat5 L us
  | _, _ => []
theorem flat5_at : ∀ (L : List At) (us : List Value) (i : Nat), us.length = L.length → i < L.length →
    (flat5 L us)[i * 5]? = some (.string (tx (at' L i).nm)) ∧ (flat5 L us)[i * 5 + 1]? = some (.int .i64 (at' L i).k) ∧ (flat5 L us)[i * 5 + 2]? = some (us.getD i undef) ∧ (flat5 L us)[i * 5 + 3]? = some (.int .i64 (at' L i).lo) ∧ (flat5 L us)[i * 5 + 4]? = some (.int .i64 (at' L i).hi) := by
  intro L
  induction L with
  | nil => intro us i _ h; simp at h
  | cons a L ih =>
    intro us i hl h
    cases us with
    | nil => simp at hl
    | cons u us =>
      cases i with
      | zero => simp [flat5, at']
      | succ i =>
        have := ih us i (by simpa using hl) (by simpa using h)
        rw [show (i + 1) * 5 = i * 5 + 1 + 1 + 1 + 1 + 1 by omega]
        simpa [flat5, at'] using this
def AttsIn (B : Nat) (w : World) (v : Value) (L : List At) : Prop :=
  ∃ p c, v = .slice p L.length c ∧ (L.length ≤ c ∧ (p = none → c = 0)) ∧ (0 < L.length → ∃ b off, p = some ⟨b, off, none⟩ ∧ B ≤ b ∧ ∀ j, j < L.length →
    w.cell? ⟨b, off + j * 5, none⟩ = some (.string (tx (at' L j).nm)) ∧ w.cell? ⟨b, off + j * 5 + 1, none⟩ = some (.int .i64 (at' L j).k) ∧ (∃ u, w.cell? ⟨b, off + j * 5 + 2, none⟩ = some u ∧ StrsIn B w u (at' L j).ws) ∧ w.cell? ⟨b, off + j * 5 + 3, none⟩ = some (.int .i64 (at' L j).lo) ∧ w.cell? ⟨b, off + j * 5 + 4, none⟩ = some (.int .i64 (at' L j).hi))
theorem AttsIn.at {B : Nat} {w : World} {v : Value} {L : List At} (h : AttsIn B w v L) : AttsAt w v L := by
  obtain ⟨p, c, hv, hc, hp⟩ := h
  refine ⟨p, c, hv, hc, fun h0 => ?_⟩
  obtain ⟨b, off, e, _, hh⟩ := hp h0
  refine ⟨b, off, e, fun j hj => ?_⟩
  obtain ⟨h1, h2, ⟨u, h3, h4⟩, h5, h6⟩ := hh j hj
  exact ⟨h1, h2, ⟨u, h3, h4.at⟩, h5, h6⟩
theorem AttsIn.set {B b0 o : Nat} {w : World} {v : Value} {L : List At} (h : AttsIn B w v L) (hb : b0 < B) (x : Value) : AttsIn B (w.setCell ⟨b0, o, none⟩ x) v L := by
  obtain ⟨p, c, hv, hcc, hp⟩ := h
  refine ⟨p, c, hv, hcc, fun h0 => ?_⟩
  obtain ⟨b, off, e, hB, hh⟩ := hp h0
  have key : ∀ i, (w.setCell ⟨b0, o, none⟩ x).cell? ⟨b, i, none⟩ = w.cell? ⟨b, i, none⟩ := fun i => World.cell?_setCell_other _ _ _ _ (by intro e; simp only [Addr.mk.injEq] at e; omega)
  refine ⟨b, off, e, hB, fun j hj => ?_⟩
  obtain ⟨h1, h2, ⟨u, h3, h4⟩, h5, h6⟩ := hh j hj
  exact ⟨(key _).trans h1, (key _).trans h2, ⟨u, (key _).trans h3, h4.set hb x⟩, (key _).trans h5, (key _).trans h6⟩
theorem attsIn_lit (B : Nat) (W : World) (L : List At) (us : List Value) (t : TypeId) (hB : B ≤ W.heap.size) (hl : us.length = L.length) (hS : ∀ i, i < L.length → StrsIn B W (us.getD i undef) (at' L i).ws) :
    AttsIn B (W.alloc (.cells (flat5 L us).toArray t)) (.slice (some ⟨W.heap.size, 0, none⟩) L.length L.length) L := by
  refine ⟨_, _, rfl, ⟨Nat.le_refl _, fun e => by cases e⟩, fun _ => ⟨W.heap.size, 0, rfl, hB, fun j hj => ?_⟩⟩
  obtain ⟨h1, h2, h3, h4, h5⟩ := flat5_at L us j hl hj
  have key : ∀ i v, (flat5 L us)[i]? = some v → (W.alloc (.cells (flat5 L us).toArray t)).cell? ⟨W.heap.size, i, none⟩ = some v := by
    intro i v hv
    simpa using hv
  refine ⟨key _ _ (by rw [Nat.zero_add]; exact h1), key _ _ (by rw [Nat.zero_add]; exact h2), ⟨_, key _ _ (by rw [Nat.zero_add]; exact h3), (hS j hj).below (alloc_at W _)⟩, key _ _ (by rw [Nat.zero_add]; exact h4), key _ _ (by rw [Nat.zero_add]; exact h5)⟩
def storeysA : At := ⟨[115, 116, 111, 114, 101, 121, 115], 2, [], 1, 9⟩
def alarmA : At := ⟨[97, 108, 97, 114, 109], 3, [], 0, 0⟩
def numA (lo hi : Int) : At := ⟨[110], 2, [], lo, hi⟩
def truthA (c : UInt8) : At := ⟨[c], 3, [], 0, 0⟩
def roleA : At := ⟨[114, 111, 108, 101], 1, [[99, 114, 101, 119], [103, 117, 101, 115, 116]], 0, 0⟩
def onlyA : At := ⟨[111, 110, 101], 1, [[111, 110, 108, 121]], 0, 0⟩
/-- The schema that is made of a number. -/
def madeS (k : Int) : List At :=
  if k = 0 then [perilA, storeysA, alarmA] else if k = 1 then [numA (-5) 20] else if k = 2 then [truthA 97, roleA, truthA 98]
  else if k = 3 then [numA (-1000000000) 1000000000, truthA 116] else if k = 4 then [onlyA, perilA, numA 0 6, truthA 116] else [truthA 116]
def MadeBe (L : List At) (w : World) (e : Ending) (w' : World) : Prop := ∃ u, e = .returned (.agg #[u]) ∧ AttsAt w' u L ∧ Below w.heap.size w w'
def MadeIn (L : List At) (w : World) (e : Ending) (w' : World) : Prop := ∃ u, e = .returned (.agg #[u]) ∧ AttsIn w.heap.size w' u L ∧ Below w.heap.size w w'
theorem AttsIn.mono {B C : Nat} {w : World} {v : Value} {L : List At} (h : AttsIn B w v L) (hC : C ≤ B) : AttsIn C w v L := by
  obtain ⟨p, c, hv, hc, hp⟩ := h
  refine ⟨p, c, hv, hc, fun h0 => ?_⟩
  obtain ⟨b, off, e, hB, hh⟩ := hp h0
  refine ⟨b, off, e, by omega, fun j hj => ?_⟩
  obtain ⟨h1, h2, ⟨u, h3, h4⟩, h5, h6⟩ := hh j hj
  exact ⟨h1, h2, ⟨u, h3, h4.mono hC⟩, h5, h6⟩
set_option maxHeartbeats 4000000 in
theorem made_0 (k : Int) (w : World) (h : ∀ w, Calls Tryz.prog 33 #[.int .i64 k, .int .i64 6] w fun e w' => e = .returned (.int .i64 0) ∧ w = w') : Calls Tryz.prog 35 #[.int .i64 k] w (MadeIn [perilA, storeysA, alarmA] w) := by
  have h' := Lib.hid h
  clear h
  have cP := Lib.hid (fun w => peril_any w)
  go_enter Tryz.func35, Tryz.ntmps35
  go_wp2_with fail
  refine (h'.out _).mono ?_; rintro e w' ⟨rfl, rfl⟩
  go_wp2_with fail
  refine (cP.out _).mono ?_; rintro e W1 ⟨u, rfl, hS, hB⟩
  obtain ⟨pu, cu, rfl, _, _⟩ := id hS
  have hs1 : w.heap.size + 1 ≤ W1.heap.size := by have := hB.size; simpa using this
  have hb : ∀ v : Value, (w.alloc (.cells #[v] 57)).cell? ⟨w.heap.size, 0, none⟩ = some v ∧ (w.alloc (.cells #[v] 57)).frozen? ⟨w.heap.size, 0, none⟩ = false := fun v => ⟨by simp, by simp⟩
  have x0 : ∀ o, (W1.alloc o).cell? ⟨w.heap.size, 0, none⟩ = some (.slice none 0 0) := fun o => by
    rw [(alloc_at W1 o).cell (p := ⟨w.heap.size, 0, none⟩) (show w.heap.size < W1.heap.size by omega), hB.cell (p := ⟨w.heap.size, 0, none⟩) (by simp)]; exact (hb _).1
  have f0 : ∀ o, (W1.alloc o).frozen? ⟨w.heap.size, 0, none⟩ = false := fun o => by
    rw [(alloc_at W1 o).frozen (p := ⟨w.heap.size, 0, none⟩) (show w.heap.size < W1.heap.size by omega), hB.frozen (p := ⟨w.heap.size, 0, none⟩) (by simp)]; exact (hb (.slice none 0 0)).2
  have S1 := Lib.hid (hS.mono (C := w.heap.size + 1) (by simp))
  have B1 := Lib.hid (trans_b (alloc_at w _) hB)
  clear hS hB hb
  unfold AtV
  go_wp2_with fail
  have hA := (attsIn_lit (w.heap.size + 1) W1 [perilA, storeysA, alarmA] [.slice pu 4 cu, .slice none 0 0, .slice none 0 0] 84 hs1 rfl (fun i hi => by
    have hi' : i < 3 := hi
    have hc : i = 0 ∨ i = 1 ∨ i = 2 := by omega
    rcases hc with rfl | rfl | rfl
    · exact S1.out
    · exact strsIn_nil _ _
    · exact strsIn_nil _ _)).set (b0 := w.heap.size) (o := 0) (Nat.lt_succ_self _) (.slice (some ⟨W1.heap.size, 0, none⟩) 3 3)
  have hBB := (trans_b B1.out (alloc_at W1 (.cells (flat5 [perilA, storeysA, alarmA] [.slice pu 4 cu, .slice none 0 0, .slice none 0 0]).toArray 84))).setCell (p := ⟨w.heap.size, 0, none⟩) (Nat.le_refl _) (.slice (some ⟨W1.heap.size, 0, none⟩) 3 3)
  have hx := World.cell?_setCell_same _ _ (.slice (some ⟨W1.heap.size, 0, none⟩) 3 3) (x0 (.cells (flat5 [perilA, storeysA, alarmA] [.slice pu 4 cu, .slice none 0 0, .slice none 0 0]).toArray 84))
  clear x0 f0
  show bodyPost _ _ _ _ _ ((W1.alloc (.cells (flat5 [perilA, storeysA, alarmA] [.slice pu 4 cu, .slice none 0 0, .slice none 0 0]).toArray 84)).setCell ⟨w.heap.size, 0, none⟩ (.slice (some ⟨W1.heap.size, 0, none⟩) 3 3))
  generalize (W1.alloc (.cells (flat5 [perilA, storeysA, alarmA] [.slice pu 4 cu, .slice none 0 0, .slice none 0 0]).toArray 84)).setCell ⟨w.heap.size, 0, none⟩ (.slice (some ⟨W1.heap.size, 0, none⟩) 3 3) = W9 at *
  exact bodyPost_ret (v := .agg #[.slice (some ⟨W1.heap.size, 0, none⟩) 3 3]) (by simp [results, Tryz.results35, go_sem, hx]) rfl ⟨_, rfl, hA.mono (Nat.le_succ _), hBB⟩
end Go.Proofs.YtjmipikahaoblaaGreatDoor.Sc
