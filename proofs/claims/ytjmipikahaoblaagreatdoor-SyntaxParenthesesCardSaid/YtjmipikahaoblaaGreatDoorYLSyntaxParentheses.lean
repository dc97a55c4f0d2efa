/- Tokens that functions make. The program's writer: lists of words. The program's writer: arguments. The program's writer, whole. The reference's tokens: lists of names. The reference's tokens of an expression. (gen_synrtk.py) The reference's tokens of not, and, or; of every expression. (gen_synrtk3.py) An expression that was written is read as the same expression: the statement. The reference's Exp -/
import Derived.Test.YtjmipikahaoblaaGreatDoorZ03
import Derived.Test.YtjmipikahaoblaaGreatDoorZ10
import Derived.Test.YtjmipikahaoblaaGreatDoorZ04
import Derived.Test.YtjmipikahaoblaaGreatDoorZ05
import Derived.Deep.RegionHeld3
import Derived.Test.YtjmipikahaoblaaGreatDoorZ12
import Derived.Test.YtjmipikahaoblaaGreatDoorZ14
import Derived.Test.YtjmipikahaoblaaGreatDoorZ08
import Derived.Test.YtjmipikahaoblaaGreatDoorZ13
namespace Go.Proofs.YtjmipikahaoblaaGreatDoor.Syn
open Go.RowKit Go.Lib Go.Proofs.YtjmipikahaoblaaGreatDoor.Bas Go.Proofs.YtjmipikahaoblaaGreatDoor.Cal Go.Proofs.YtjmipikahaoblaaGreatDoor.Lx Go.Proofs.YtjmipikahaoblaaGreatDoor.Sc
set_option linter.unusedVariables false

def tkv (t : Tok) : Value := .agg #[.int .i64 t.k, .string (tx t.t), .int .i64 t.n, .int .i64 0]
def TokR (t : Tok) (w : World) (e : Ending) (w' : World) : Prop := e = .returned (tkv t) ∧ Below w.heap.size w w'
set_option maxHeartbeats 1000000 in
theorem wordtk_any (s : List UInt8) (w : World) : Calls Tryz.prog 69 #[.string (tx s)] w (TokR (nmT s) w) := by
  go_enter Tryz.func69, Tryz.ntmps69
  go_wp2_with fail
  exact bodyPost_ret (v := tkv (nmT s)) (by simp [results, Tryz.results69, go_sem, tkv, nmT]) rfl ⟨rfl, alloc_at w _⟩
set_option maxHeartbeats 1000000 in
theorem marktk_any (s : List UInt8) (w : World) : Calls Tryz.prog 114 #[.string (tx s)] w (TokR (mkT s) w) := by
  go_enter Tryz.func114, Tryz.ntmps114
  go_wp2_with fail
  exact bodyPost_ret (v := tkv (mkT s)) (by simp [results, Tryz.results114, go_sem, tkv, mkT]) rfl ⟨rfl, alloc_at w _⟩
set_option maxHeartbeats 1000000 in
theorem numtk_any (n : Int) (w : World) : Calls Tryz.prog 71 #[.int .i64 n] w (TokR (noT n) w) := by
  go_enter Tryz.func71, Tryz.ntmps71
  go_wp2_with fail
  exact bodyPost_ret (v := tkv (noT n)) (by simp [results, Tryz.results71, go_sem, tkv, noT, tx]) rfl ⟨rfl, alloc_at w _⟩
set_option maxHeartbeats 1000000 in
theorem rword_any (s : List UInt8) (w : World) : Calls Tryz.prog 74 #[.string (tx s)] w (TokR (nmT s) w) := by
  go_enter Tryz.func74, Tryz.ntmps74
  go_wp2_with fail
  exact bodyPost_ret (v := tkv (nmT s)) (by simp [results, Tryz.results74, go_sem, tkv, nmT]) rfl ⟨rfl, alloc_at w _⟩
set_option maxHeartbeats 1000000 in
theorem rmark_any (s : List UInt8) (w : World) : Calls Tryz.prog 76 #[.string (tx s)] w (TokR (mkT s) w) := by
  go_enter Tryz.func76, Tryz.ntmps76
  go_wp2_with fail
  exact bodyPost_ret (v := tkv (mkT s)) (by simp [results, Tryz.results76, go_sem, tkv, mkT]) rfl ⟨rfl, alloc_at w _⟩
set_option maxHeartbeats 1000000 in
theorem rnumber_any (n : Int) (w : World) : Calls Tryz.prog 77 #[.int .i64 n] w (TokR (noT n) w) := by
  go_enter Tryz.func77, Tryz.ntmps77
  go_wp2_with fail
  exact bodyPost_ret (v := tkv (noT n)) (by simp [results, Tryz.results77, go_sem, tkv, noT, tx]) rfl ⟨rfl, alloc_at w _⟩
/-- A row with more tokens. -/
def ToksO (B : Nat) (v : Value) (L : List Tk) (w : World) (e : Ending) (w' : World) : Prop := ∃ u, e = .returned u ∧ TRow B w' u L ∧ Own v w u w'
/-- Tokens that were just laid. -/
theorem lit_toks (w : World) (M : List Tok) (g : Nat) (hg : w.heap.size = g) (n : Nat) (hn : M.length = n) : TksAt (w.alloc (.cells (flat4 (tksOf M)).toArray 71)) (.slice (some ⟨g, 0, none⟩) n n) (tksOf M) := by
  subst hg
  subst hn
  have hl : (tksOf M).length = M.length := by unfold tksOf; rw [List.length_map]
  refine ⟨_, M.length, by rw [hl], ⟨by omega, fun e => by cases e⟩, fun _ => ⟨w.heap.size, 0, rfl, fun j hj => ?_⟩⟩
  have hf := flat4_at (tksOf M) j hj
  rw [tk_at (tksOf M) j hj, Nat.zero_add]
  have hs : ∀ i u, (flat4 (tksOf M))[i]? = some u → (w.alloc (.cells (flat4 (tksOf M)).toArray 71)).cell? ⟨w.heap.size, i, none⟩ = some u := fun i u h => by
    simp [h]
  exact ⟨hs _ _ hf.1, hs _ _ hf.2.1, hs _ _ hf.2.2.1, hs _ _ hf.2.2.2⟩
theorem tksOf_len (M : List Tok) : (tksOf M).length = M.length := by unfold tksOf; rw [List.length_map]
theorem tksOf_app (M N : List Tok) : tksOf (M ++ N) = tksOf M ++ tksOf N := by unfold tksOf; rw [List.map_append]

end Go.Proofs.YtjmipikahaoblaaGreatDoor.Syn
namespace Go.Proofs.YtjmipikahaoblaaGreatDoor.Syn
open Go.RowKit Go.Lib Go.Proofs.YtjmipikahaoblaaGreatDoor.Bas Go.Proofs.YtjmipikahaoblaaGreatDoor.Cal Go.Proofs.YtjmipikahaoblaaGreatDoor.Lx Go.Proofs.YtjmipikahaoblaaGreatDoor.Sc
set_option linter.unusedVariables false

def bfW (k : Nat) : List UInt8 := if k = 0 then [40] else [44]
def preW (ws : List (List UInt8)) (k : Nat) : List Tok := if k = 0 then [] else mkT [40] :: listT true (ws.take k)
theorem preW_succ (ws : List (List UInt8)) (k : Nat) (h : k < ws.length) : preW ws (k + 1) = preW ws k ++ [mkT (bfW k), nmT (ws.getD k [])] := by
  unfold preW bfW
  rw [if_neg (by omega), list_take ws true k h]
  by_cases h0 : k = 0
  · subst h0; simp [listT]
  · rw [if_neg h0, if_neg (by simp [h0]), if_neg h0]; rfl
theorem preW_len (ws : List (List UInt8)) (k : Nat) : (preW ws k).length ≤ 2 * ws.length + 1 := by
  unfold preW
  split
  · simp
  · have h1 := (list_len (ws.take k)).1
    have h2 : (ws.take k).length ≤ ws.length := by rw [List.length_take]; omega
    rw [List.length_cons]
    omega
set_option maxRecDepth 8000 in
set_option maxHeartbeats 8000000 in
theorem pwwords_any (v : Value) (L : List Tk) (u : Value) (ws : List (List UInt8)) (w : World) (B : Nat) (hR : TRow B w v L) (hS : StrsS (fun b => b < B) w u ws) (h1 : 1 ≤ ws.length) (hL : L.length + 2 * ws.length + 2 ≤ 200000) (hB : B ≤ w.heap.size) :
    Calls Tryz.prog 70 #[v, u] w (ToksO B v (L ++ tksOf (mkT [40] :: listT true ws ++ [mkT [41]])) w) := by
  have hF := Lib.hid (fun (W : World) (y : Value) (hO : Own v w y W) => hS.frame (T := fun b => b < B) fun b hb hl => ⟨hb, (hO.blk (fun g hg => (hR.block g hg).1) hB).block b hb⟩)
  have hR' := Lib.hid hR
  have hpre := Lib.hid (fun k (hk : k < ws.length) => (show (L ++ tksOf (preW ws k)) ++ tksOf [mkT (bfW k), nmT (ws.getD k [])] = L ++ tksOf (preW ws (k + 1)) from by rw [preW_succ ws k hk, tksOf_app, List.append_assoc]))
  have hend := Lib.hid (show ∀ k, k = ws.length → (L ++ tksOf (preW ws k)) ++ tksOf [mkT [41]] = L ++ tksOf (mkT [40] :: listT true ws ++ [mkT [41]]) from fun k hk => by
    have h2 : preW ws k = mkT [40] :: listT true ws := by unfold preW; rw [if_neg (by omega), hk, List.take_length]
    rw [h2, tksOf_app, List.append_assoc])
  have hlp := Lib.hid (show ∀ k, (L ++ tksOf (preW ws k)).length ≤ 199999 from fun k => by
    have := preW_len ws k
    rw [List.length_append, tksOf_len]; omega)
  have hz : tksOf (preW ws 0) = [] := rfl
  have hfin := Lib.hid (fun (y : Value) (W : World) (h : TRow B W y (L ++ tksOf (mkT [40] :: listT true ws ++ [mkT [41]]))) (hO : Own v w y W) => (show ToksO B v (L ++ tksOf (mkT [40] :: listT true ws ++ [mkT [41]])) w (.returned y) W from ⟨y, rfl, h, hO⟩))
  generalize L ++ tksOf (mkT [40] :: listT true ws ++ [mkT [41]]) = LL at *
  have cM := Lib.hid (fun s w => marktk_any s w)
  have cN := Lib.hid (fun s w => wordtk_any s w)
  obtain ⟨p, c, rfl, hcc, _⟩ := hS
  obtain ⟨n, hn⟩ : ∃ n, ws.length = n := ⟨_, rfl⟩
  have hn' := Lib.hid hn
  rw [hn] at h1 hL hpre hend hF ⊢
  clear hn hcc hR
  go_enter Tryz.func70, Tryz.ntmps70
  go_wp2_with fail
  go_loopw [0, 5, 10] (fun x0 x5 x10 wr => ∃ k : Nat, k ≤ n ∧ x10 = .int .i64 k ∧ x5 = .string (tx (bfW k)) ∧ Hid (TRow B wr x0 (L ++ tksOf (preW ws k))) ∧ Hid (Own v w x0 wr)) (fun _ _ x _ => n - (RowKit.intOf x).toNat)
  case atStart => exact ⟨0, Nat.zero_le _, rfl, rfl, Lib.hid (by rw [hz, List.append_nil]; exact hR'.out), Lib.hid (Own.refl _ _)⟩
  case round =>
    obtain ⟨k, hk, rfl, rfl, hX, hO⟩ := hrel
    have hl1 := hlp.out k
    have hBw : B ≤ wr.heap.size := by have := hO.out.size; omega
    by_cases hlt : k < n
    · obtain ⟨p', c', hv, _, hp⟩ := hF.out wr _ hO.out
      rw [hn'.out] at hv hp
      obtain ⟨rfl, _, rfl⟩ := Value.slice.inj hv
      obtain ⟨b, off, rfl, hb, hc⟩ := hp (by omega)
      have hck := hc k hlt
      clear hc hp hv
      have hk64 : IntKind.i64.wrap ((k : Int) + 1) = (k : Int) + 1 := IntWalk.i64_in _ (by omega)
      have hpk := Lib.hid (hpre.out k hlt)
      have hb44 : k + 1 ≠ 0 := by omega
      have hbf : (ByteArray.mk #[44]) = tx (bfW (k + 1)) := by unfold bfW; rw [if_neg hb44]; rfl
      have hbf' := Lib.hid hbf
      clear hb44 hbf
      generalize ws.getD k [] = y at *
      generalize bfW k = bf at *
      go_wp2_with fail
      refine (cM.out bf wr).mono ?_; rintro e w1 ⟨rfl, hB1⟩
      have O1 := Lib.hid (hO.out.below hB1)
      have X1 := Lib.hid (hX.out.keep hB1)
      clear hX hO hB1
      simp only [tkv, mkT]
      go_wp2_with fail
      refine (cN.out y w1).mono ?_; rintro e w2 ⟨rfl, hB2⟩
      have hal := alloc_at w2 (.cells (flat4 (tksOf [mkT bf, nmT y])).toArray 71)
      have O2 := Lib.hid ((O1.out.below hB2).below hal)
      have X2 := Lib.hid ((X1.out.keep hB2).keep hal)
      have hBw2 : B ≤ (w2.alloc (.cells (flat4 (tksOf [mkT bf, nmT y])).toArray 71)).heap.size := by have := O2.out.size; omega
      have M2 := Lib.hid (lit_toks w2 [mkT bf, nmT y] w2.heap.size rfl 2 rfl)
      clear X1 O1 hB2 hck hal
      simp only [tkv, nmT]
      go_wp2_with (at_builtin; refine wpList_app_toks rfl (.tmp 14) (.tmp 19) rfl B u0 (L ++ tksOf (preW ws k)) rfl X2.out _ (tksOf [mkT bf, nmT y]) rfl M2.out (by rw [tksOf_len]; exact Nat.zero_lt_succ _) (by rw [tksOf_len]; simp only [List.length_cons, List.length_nil]; omega) hBw2 ?_; intro v3 w3 hX3 hO3; refine Hid.out ?_)
      refine Lib.hid ?_
      rw [hpk.out] at hX3
      have X3 := Lib.hid hX3
      have O3 := Lib.hid (O2.out.trans hO3)
      clear hX3 hO3 X2 O2 M2
      go_wp2_with fail
      go_roundw
      case rel => exact ⟨k + 1, by omega, by go_num, by rw [hbf'.out], X3, O3⟩
      case measure => simp [RowKit.intOf]; omega
    · have he := Lib.hid (hend.out k (by omega))
      clear hend
      go_wp2_with fail
      refine (cM.out [41] wr).mono ?_; rintro e w1 ⟨rfl, hB1⟩
      have hal := alloc_at w1 (.cells (flat4 (tksOf [mkT [41]])).toArray 71)
      have O1 := Lib.hid ((hO.out.below hB1).below hal)
      have X1 := Lib.hid ((hX.out.keep hB1).keep hal)
      have hBw2 : B ≤ (w1.alloc (.cells (flat4 (tksOf [mkT [41]])).toArray 71)).heap.size := by have := O1.out.size; omega
      have M1 := Lib.hid (lit_toks w1 [mkT [41]] w1.heap.size rfl 1 rfl)
      clear hX hO hB1 hal
      simp only [tkv, mkT]
      go_wp2_with (at_builtin; refine wpList_app_toks rfl (.tmp 22) (.tmp 24) rfl B u0 (L ++ tksOf (preW ws k)) rfl X1.out _ (tksOf [mkT [41]]) rfl M1.out (by rw [tksOf_len]; exact Nat.zero_lt_succ _) (by rw [tksOf_len]; simp only [List.length_cons, List.length_nil]; omega) hBw2 ?_; intro v3 w3 hX3 hO3; refine Hid.out ?_)
      refine Lib.hid ?_
      rw [he.out] at hX3
      have hf := Lib.hid (hfin.out _ _ hX3 (O1.out.trans hO3))
      clear hX3 hO3 X1 O1 M1
      go_wp2_with fail
      go_ret
      exact hf.out
end Go.Proofs.YtjmipikahaoblaaGreatDoor.Syn
namespace Go.Proofs.YtjmipikahaoblaaGreatDoor.Syn
open Go.RowKit Go.Lib Go.Proofs.YtjmipikahaoblaaGreatDoor.Bas Go.Proofs.YtjmipikahaoblaaGreatDoor.Cal Go.Proofs.YtjmipikahaoblaaGreatDoor.Lx Go.Proofs.YtjmipikahaoblaaGreatDoor.Sc
set_option linter.unusedVariables false

/-- What writes the tokens of expressions of at most n nodes. -/
def WrOk (n : Nat) : Prop := ∀ (e : Ex) (x : Value) (w : World) (B : Nat) (v : Value) (L : List Tk), e.size ≤ n → ExS (fun b => b < B) w x e → exB e = true → TRow B w v L → L.length + (exT e).length ≤ 100000 → B ≤ w.heap.size → OpsAt w → 0 < B →
  Calls Tryz.prog 48 #[v, x] w (ToksO B v (L ++ tksOf (exT e)) w)
def ArgOk (n : Nat) : Prop := ∀ (e : Ex) (op : Int) (x : Value) (w : World) (B : Nat) (v : Value) (L : List Tk), e.size ≤ n → ExS (fun b => b < B) w x e → exB e = true → TRow B w v L → L.length + (argT op e.d e.kids).length ≤ 100000 → B ≤ w.heap.size → OpsAt w → 0 < B →
  Calls Tryz.prog 72 #[v, x, .int .i64 op] w (ToksO B v (L ++ tksOf (argT op e.d e.kids)) w)
theorem ex_op {e : Ex} (h : exB e = true) : 1 ≤ e.d.op ∧ e.d.op ≤ 8 := by
  unfold exB at h
  rw [Bool.and_eq_true] at h
  have h1 := h.1
  unfold nodeB at h1
  simp only [Bool.and_eq_true, decide_eq_true_eq] at h1
  exact h1.1.1.1.1
theorem OpsAt.own {v x : Value} {w w' : World} {B : Nat} (h : OpsAt w) (hO : Own v w x w') (hv : ∀ g, v.ownBlock = some g → B ≤ g) (hB : B ≤ w.heap.size) (hg : 0 < B) : OpsAt w' := h.block ((hO.blk hv hB).block _ hg)
theorem opr_mr (k : Nat) (h : 1 ≤ k ∧ k ≤ 8) : (opr k).mr = decide (7 ≤ k) := by
  rcases (show k = 1 ∨ k = 2 ∨ k = 3 ∨ k = 4 ∨ k = 5 ∨ k = 6 ∨ k = 7 ∨ k = 8 by omega) with rfl | rfl | rfl | rfl | rfl | rfl | rfl | rfl <;> decide
set_option maxRecDepth 8000 in
set_option maxHeartbeats 8000000 in
theorem arg_of (n : Nat) (hW : WrOk n) : ArgOk n := by
  intro e op x w B v L hn hE hx hR hl hB hO hg
  obtain ⟨u, a, rfl, hu, hF⟩ := hE
  have al := alloc_at w (xo e.d u a)
  have X0 := Lib.hid (XAt.new w e.d u a)
  have hb0v : v.ownBlock ≠ some w.heap.size := fun e => by have := (hR.block _ e).2; omega
  have R0 := Lib.hid (hR.keep al)
  have hO0 := hO.keep al
  have O0 := Lib.hid (Own.of_below v al)
  have E0 := Lib.hid ((show ExS (fun b => b < B) w (exV e.d u a) e from ⟨u, a, rfl, hu, hF⟩).below al)
  have hBW : B ≤ (w.alloc (xo e.d u a)).heap.size := by have := al.size; omega
  have hop := ex_op hx
  have cW := Lib.hid (fun (W : World) (y : Value) (M : List Tk) (h1 : Own v (w.alloc (xo e.d u a)) y W) (h2 : TRow B W y M) (h3 : M.length + (exT e).length ≤ 100000) => hW e (exV e.d u a) W B y M hn (E0.out.frame fun b hb _ => ⟨hb, (h1.blk (fun g hg => (hR.block g hg).1) hBW).block b hb⟩) hx h2 h3 (by have := h1.size; omega) (hO0.own h1 (fun g hg => (hR.block g hg).1) hBW hg) hg)
  obtain ⟨k, hk⟩ : ∃ k : Nat, e.d.op = k := ⟨e.d.op.toNat, by omega⟩
  have hk1 : 1 ≤ k ∧ k ≤ 8 := by omega
  have hr5 := (hO0 k (by omega)).2.2.2.2.2
  rw [opr_mr k hk1] at hr5
  have hyes := Lib.hid (show parB op e.d.op = false → argT op e.d e.kids = exT e from fun h => by unfold argT; rw [if_neg (by rw [h]; simp)]; rfl)
  have hpar := Lib.hid (show parB op e.d.op = true → argT op e.d e.kids = [mkT [40]] ++ exT e ++ [mkT [41]] from fun h => by unfold argT; rw [if_pos h]; rfl)
  have hll : (exT e).length ≤ (argT op e.d e.kids).length := by
    cases h : parB op e.d.op with
    | false => rw [hyes.out h]; exact Nat.le_refl _
    | true => rw [hpar.out h]; simp; omega
  have hl2 : parB op e.d.op = true → (exT e).length + 2 ≤ (argT op e.d e.kids).length := fun h => by rw [hpar.out h]; simp
  have hl2' := Lib.hid hl2
  have hpB : parB op e.d.op = (decide (7 ≤ k) && !(decide (k = 7) && decide (op = 8))) := by
    unfold parB
    rw [hk]
    by_cases h7 : k = 7
    · subst h7
      by_cases h8 : op = 8
      · simp [h8]
      · simp [h8]
    · by_cases h8 : k = 8
      · subst h8; simp
      · have e1 : decide ((k : Int) = 8) = false := decide_eq_false (by omega)
        have e2 : decide ((k : Int) = 7) = false := decide_eq_false (by omega)
        have e3 : decide (7 ≤ k) = false := decide_eq_false (by omega)
        rw [e1, e2, e3]; rfl
  rw [hpB] at hyes hpar hl2'
  have cM := Lib.hid (fun s w => marktk_any s w)
  have c40 := Lib.hid (fun w => (show Calls Tryz.prog 114 #[.string { data := #[40] }] w (TokR (mkT [40]) w) from marktk_any [40] w))
  obtain ⟨pu, cu, rfl, _, _⟩ := hu
  obtain ⟨p, c, rfl, _, _⟩ := hF
  unfold exV at cW ⊢
  clear hpB hl2 hx hn hR hO al hO0 E0
  generalize argT op e.d e.kids = AT at *
  generalize exT e = ET at *
  generalize e.d.ws.length = nw at *
  generalize e.kids.len = nk at *
  generalize e.d = d at *
  obtain ⟨dop, dnm, dws, dlo, dhi⟩ := d
  simp only at hk
  subst hk
  simp only at *
  go_enter Tryz.func72, Tryz.ntmps72
  go_upto_region 1 with fail
  obtain ⟨b0, hb0⟩ : ∃ b, w.heap.size = b := ⟨_, rfl⟩
  rw [hb0] at X0 hb0v ⊢
  clear hb0
  generalize w.alloc (xo ⟨(k : Int), dnm, dws, dlo, dhi⟩ (.slice pu nw cu) (.slice p nk c)) = W0 at *
  obtain ⟨_, y0, y1, y2, y3, y4, y5⟩ := X0.out
  simp only at y0 y1 y3 y4
  have hfin := Lib.hid (fun (y : Value) (W : World) (M : List Tk) (hM : M = L ++ tksOf AT) (h : TRow B W y M) (hO : Own v w y W) => (show ToksO B v (L ++ tksOf AT) w (.returned y) W from ⟨y, rfl, by rw [← hM]; exact h, hO⟩))
  by_cases hplain : (decide (7 ≤ k) && !(decide (k = 7) && decide (op = 8))) = false
  · have hAT := hyes.out hplain
    have c1 := Lib.hid (cW.out W0 v L (Own.refl _ _) R0.out (by omega))
    have hcase : (k ≤ 6) ∨ (k = 7 ∧ op = 8) := by
      by_cases h6 : k ≤ 6
      · exact .inl h6
      · rw [decide_eq_true (show 7 ≤ k by omega)] at hplain
        simp at hplain
        exact .inr hplain
    clear hplain hyes hpar hl2' cW hl hll
    rcases hcase with h6 | ⟨rfl, rfl⟩
    · rw [decide_eq_false (show ¬ 7 ≤ k by omega)] at hr5
      go_wp2_with fail
      refine c1.out.mono ?_; rintro e w1 ⟨y, rfl, hY, hO1⟩
      have hf := Lib.hid (hfin.out y w1 _ (by rw [hAT]) hY (O0.out.trans hO1))
      clear hY hO1 c1 y0 y1 y2 y3 y4 y5 hr5
      go_wp2_with fail
      go_ret
      exact hf.out
    · rw [decide_eq_true (show 7 ≤ 7 by omega)] at hr5
      go_wp2_with fail
      refine c1.out.mono ?_; rintro e w1 ⟨y, rfl, hY, hO1⟩
      have hf := Lib.hid (hfin.out y w1 _ (by rw [hAT]) hY (O0.out.trans hO1))
      clear hY hO1 c1 y0 y1 y2 y3 y4 y5 hr5
      go_wp2_with fail
      go_ret
      exact hf.out
  · have hpl : (decide (7 ≤ k) && !(decide (k = 7) && decide (op = 8))) = true := by
      cases h : (decide (7 ≤ k) && !(decide (k = 7) && decide (op = 8))) with
      | false => exact absurd h hplain
      | true => rfl
    have hAT := hpar.out hpl
    have hl3 := hl2'.out hpl
    have h7 : 7 ≤ k := by
      by_cases h : 7 ≤ k
      · exact h
      · rw [decide_eq_false h] at hpl; simp at hpl
    rw [decide_eq_true h7] at hr5 hpl
    have ht : ((k : Int) == 7) = true ∧ (op == 8) = false ∨ ((k : Int) == 7) = false := by
      by_cases e7 : k = 7
      · left
        refine ⟨by simp [e7], ?_⟩
        by_cases e8 : op = 8
        · rw [decide_eq_true e7, decide_eq_true e8] at hpl; simp at hpl
        · simpa using e8
      · right; simp; omega
    have hend := Lib.hid (show ((L ++ tksOf [mkT [40]]) ++ tksOf ET) ++ tksOf [mkT [41]] = L ++ tksOf AT from by rw [hAT, tksOf_app, tksOf_app]; simp only [List.append_assoc])
    have hlen2 : L.length + ET.length + 2 ≤ 100000 := by omega
    have hvb := Lib.hid (fun (g : Nat) (h : v.ownBlock = some g) => (R0.out.block g h))
    have c2 := Lib.hid (fun (W : World) (y : Value) (h1 : Own v W0 y W) (h2 : TRow B W y (L ++ tksOf [mkT [40]])) => cW.out W y _ h1 h2 (by rw [List.length_append, tksOf_len, List.length_singleton]; omega))
    have hX' := Lib.hid (fun (W : World) (y : Value) (h1 : Own v W0 y W) => (X0.out.own h1 hb0v).2)
    clear hplain hpl hyes hpar hl2' cW hl hll hl3 hAT
    rcases ht with ⟨t1, t2⟩ | t1
    all_goals
      go_upto_region 3 with fail
      go_cut [0] (fun x0 wx => Hid (TRow B wx x0 ((L ++ tksOf [mkT [40]]) ++ tksOf ET)) ∧ Hid (Own v W0 x0 wx))
      case first =>
        go_region_held3 (fun w' => w'.cell? ⟨b0, 0, none⟩ = some (.int .i64 (k : Int)) ∧ w'.cell? ⟨b0, 1, none⟩ = some (.string (tx dnm)) ∧ w'.cell? ⟨b0, 2, none⟩ = some (.slice pu nw cu) ∧ w'.cell? ⟨b0, 3, none⟩ = some (.int .i64 dlo) ∧ w'.cell? ⟨b0, 4, none⟩ = some (.int .i64 dhi) ∧ w'.cell? ⟨b0, 5, none⟩ = some (.slice p nk c))
          ((first
            | exact hX'.out _ v ((Own.refl v W0).below (below_drewN (Below.refl _ _) 1))
            | exact hX'.out _ _ o3.out
            | exact hX'.out _ _ o2.out
            | exact hX'.out _ _ (o1.out.below (alloc_at _ _))
            | exact hX'.out _ _ o1.out))
          (first
            | (go_at_call 114; (with_reducible refine (c40.out _).mono ?_); rintro e w1 ⟨rfl, hB1⟩; have o1 := Lib.hid (((Own.refl v W0).below (below_drewN (Below.refl _ _) 1)).below hB1); have r1 := Lib.hid ((R0.out.keep (below_drewN (Below.refl _ _) 1)).keep hB1); simp only [tkv, mkT])
            | ((with_reducible refine step_app_toks (o := ⟨some 28, _, _, _, _, _⟩) ?_ ?_ ?_ ?_ B v L ?_ ?_ ?_ (tksOf [mkT [40]]) ?_ ?_ ?_ ?_ ?_ ?_); (rfl); (rotate_left 2); (rfl); (rfl); (exact r1.out.keep (alloc_at _ _)); (rotate_left 1); (rfl); (exact lit_toks w1 [mkT [40]] w1.heap.size rfl 1 rfl); (rw [tksOf_len]; exact Nat.zero_lt_succ _); (rw [tksOf_len, List.length_singleton]; omega); (have := o1.out.size; have := (alloc_at w1 (.cells (flat4 (tksOf [mkT [40]])).toArray 71)).size; exact Nat.le_trans hBW (Nat.le_trans o1.out.size this)); intro y2 w2 hY2 hO2; have o2 := Lib.hid ((o1.out.below (alloc_at w1 _)).trans hO2); have r2 := Lib.hid hY2; clear hY2 hO2)
            | (go_at_call 48; (with_reducible refine (c2.out w2 y2 o2.out r2.out).mono ?_); rintro e w3 ⟨y3, rfl, hY3, hO3⟩; have o3 := Lib.hid (o2.out.trans hO3); have r3 := Lib.hid hY3; clear hY3 hO3))
        all_goals
          go_wp2_with fail
          go_meet
          case rel => exact ⟨r3, o3⟩
      case rest =>
        obtain ⟨hX3, hO3⟩ := hcut
        clear c2 hX' y0 y1 y2 y3 y4 y5 hr5
        go_wp2_with fail
        refine (cM.out [41] _).mono ?_; rintro e w1 ⟨rfl, hB1⟩
        have hal := alloc_at w1 (.cells (flat4 (tksOf [mkT [41]])).toArray 71)
        have O1 := Lib.hid ((hO3.out.below hB1).below hal)
        have X1 := Lib.hid ((hX3.out.keep hB1).keep hal)
        have hBw2 : B ≤ (w1.alloc (.cells (flat4 (tksOf [mkT [41]])).toArray 71)).heap.size := by have := O1.out.size; omega
        have M1 := Lib.hid (lit_toks w1 [mkT [41]] w1.heap.size rfl 1 rfl)
        clear hX3 hO3 hB1 hal
        simp only [tkv, mkT]
        go_wp2_with (at_builtin; refine wpList_app_toks rfl (.tmp 31) (.tmp 33) rfl B u0 ((L ++ tksOf [mkT [40]]) ++ tksOf ET) rfl X1.out _ (tksOf [mkT [41]]) rfl M1.out (by rw [tksOf_len]; exact Nat.zero_lt_succ _) (by simp only [List.length_append, tksOf_len, List.length_singleton]; omega) hBw2 ?_; intro v3 w3 hX3 hO3; refine Hid.out ?_)
        refine Lib.hid ?_
        rw [hend.out] at hX3
        have hf := Lib.hid (hfin.out v3 w3 _ rfl hX3 (O0.out.trans (O1.out.trans hO3)))
        clear hX3 hO3 X1 O1 M1
        go_wp2_with fail
        go_ret
        exact hf.out
end Go.Proofs.YtjmipikahaoblaaGreatDoor.Syn
namespace Go.Proofs.YtjmipikahaoblaaGreatDoor.Syn
open Go.RowKit Go.Lib Go.Proofs.YtjmipikahaoblaaGreatDoor.Bas Go.Proofs.YtjmipikahaoblaaGreatDoor.Cal Go.Proofs.YtjmipikahaoblaaGreatDoor.Lx Go.Proofs.YtjmipikahaoblaaGreatDoor.Sc
set_option linter.unusedVariables false

def preA (o : Opr) (d : Nd) : List Tok := if o.nm = true then [nmT d.nm] else []
def preB (o : Opr) (d : Nd) : List Tok := if o.w ≠ [] ∧ o.mr = false then [nmT o.w] else []
def preC (o : Opr) (d : Nd) : List Tok := if o.ls = true then mkT [40] :: listT true d.ws ++ [mkT [41]] else if o.rg = true then [noT d.lo, nmT wTo, noT d.hi] else []
/-- The tokens of a node: what comes ahead of its arguments, and these. -/
theorem ex_parts (d : Nd) (F : Fo) (k : Nat) (hk : d.op = k) (h1 : 1 ≤ k ∧ k ≤ 8) (hn : nodeB d F.len = true) : exT ⟨d, F⟩ = ((preA (opr k) d ++ preB (opr k) d) ++ preC (opr k) d) ++ argsT d.op true F := by
  show nodeT d (argsT d.op true F) = _
  obtain ⟨op, nm, ws, lo, hi⟩ := d
  simp only at hk
  subst hk
  have hz : k ≤ 5 → F = .nil := fun h5 => by
    unfold nodeB at hn
    simp only [Bool.and_eq_true] at hn
    have h2 := hn.2
    rw [if_neg (show ¬ ((k : Int) = 6) by omega), if_neg (show ¬ ((k : Int) = 7 ∨ (k : Int) = 8) by omega)] at h2
    have h3 := of_decide_eq_true h2
    cases F with
    | nil => rfl
    | cons a b c => rw [Fo.len] at h3; omega
  rcases (show k = 1 ∨ k = 2 ∨ k = 3 ∨ k = 4 ∨ k = 5 ∨ k = 6 ∨ k = 7 ∨ k = 8 by omega) with rfl | rfl | rfl | rfl | rfl | rfl | rfl | rfl
  · rw [hz (by omega)]; rfl
  · rw [hz (by omega)]; rfl
  · rw [hz (by omega)]; rfl
  · rw [hz (by omega)]
    show [nmT nm, nmT wIn, mkT [40]] ++ listT true ws ++ [mkT [41]] = (([nmT nm] ++ [nmT wIn]) ++ (mkT [40] :: listT true ws ++ [mkT [41]])) ++ []
    simp
  · rw [hz (by omega)]; rfl
  · rfl
  · rfl
  · rfl
theorem kids_word (d : Nd) (n k : Nat) (hk : d.op = k) (h1 : 1 ≤ k ∧ k ≤ 8) (hn : nodeB d n = true) (h2 : 2 ≤ n) : (opr k).w = wordOf d.op := by
  unfold nodeB at hn
  simp only [Bool.and_eq_true] at hn
  have h3 := hn.2
  rw [hk] at h3 ⊢
  by_cases h6 : k = 6
  · subst h6
    rw [if_pos (show ((6 : Nat) : Int) = 6 from rfl)] at h3
    have := of_decide_eq_true h3
    omega
  · rw [if_neg (show ¬ ((k : Int) = 6) by omega)] at h3
    by_cases h7 : k = 7 ∨ k = 8
    · rcases h7 with rfl | rfl <;> rfl
    · rw [if_neg (show ¬ ((k : Int) = 7 ∨ (k : Int) = 8) by omega)] at h3
      have := of_decide_eq_true h3
      omega
theorem ws_some (d : Nd) (n k : Nat) (hk : d.op = k) (h1 : 1 ≤ k ∧ k ≤ 8) (hn : nodeB d n = true) (hl : (opr k).ls = true) : 1 ≤ d.ws.length ∧ d.ws.length ≤ 12 := by
  have h4 : k = 4 := by
    rcases (show k = 1 ∨ k = 2 ∨ k = 3 ∨ k = 4 ∨ k = 5 ∨ k = 6 ∨ k = 7 ∨ k = 8 by omega) with rfl | rfl | rfl | rfl | rfl | rfl | rfl | rfl
    · cases hl
    · cases hl
    · cases hl
    · rfl
    · cases hl
    · cases hl
    · cases hl
    · cases hl
  unfold nodeB at hn
  simp only [Bool.and_eq_true] at hn
  have h3 := hn.1.1.2
  rw [if_pos (by rw [hk, h4]; rfl)] at h3
  simp only [Bool.and_eq_true, decide_eq_true_eq] at h3
  exact h3.1.1
theorem nm_empty2 (nm : List UInt8) : (tx nm).toList.isEmpty = decide (nm = []) := by
  rw [toList_bl, bl_tx]
  cases nm <;> simp
theorem args_sep (op : Int) (F : Fo) (j : Nat) (hj : j < F.len) : ∃ sep : List Tok, (j = 0 → sep = []) ∧ (j ≠ 0 → sep = [nmT (wordOf op)]) ∧ argsT op true (F.take (j + 1)) = argsT op true (F.take j) ++ (sep ++ argT op (F.get j).d (F.get j).kids) :=
  ⟨if true = true ∧ j = 0 then [] else [nmT (wordOf op)], fun h => if_pos ⟨rfl, h⟩, fun h => if_neg (fun x => h x.2), args_take op F true j hj⟩
theorem args_mono (op : Int) (F : Fo) : ∀ (m j : Nat), j + m = F.len → (argsT op true (F.take j)).length ≤ (argsT op true F).length := by
  intro m
  induction m with
  | zero => intro j hj; rw [show j = F.len by omega, Fo.take_len]; exact Nat.le_refl _
  | succ m ih =>
    intro j hj
    have h1 := ih (j + 1) (by omega)
    rw [args_take op F true j (by omega), List.length_append] at h1
    omega
theorem kids_len (op : Int) (F : Fo) : F.len ≤ (argsT op true F).length + 1 := by
  by_cases h : 1 ≤ F.len
  · cases F with
    | nil => rw [Fo.len]; omega
    | cons d k r =>
      have h1 := argT_pos op d k (.cons d k r)
      rw [args_true op _ h, List.length_cons] at h1
      exact h1
  · omega
theorem OAt6.own {v x : Value} {w w' : World} {b : Nat} {o : Opr} (h : OAt6 w b o) (hO : Own v w x w') (hb : v.ownBlock ≠ some b) : OAt6 w' b o := by
  obtain ⟨h0, h1, h2, h3, h4, h5, h6⟩ := h
  have e := hO.g.block b h0 (fun e => hb e.symm)
  exact ⟨Nat.lt_of_lt_of_le h0 hO.size, cell_same h1 fun _ => e, cell_same h2 fun _ => e, cell_same h3 fun _ => e, cell_same h4 fun _ => e, cell_same h5 fun _ => e, cell_same h6 fun _ => e⟩
set_option maxRecDepth 8000 in
set_option maxHeartbeats 16000000 in
theorem wr_step (n : Nat) (hA : ArgOk n) : WrOk (n + 1) := by
  intro e x w B v L hn hE hx hR hl hB hO hg
  obtain ⟨u, a, rfl, hu, hF⟩ := hE
  have hop := ex_op hx
  obtain ⟨k, hk⟩ : ∃ k : Nat, e.d.op = k := ⟨e.d.op.toNat, by omega⟩
  have hk1 : 1 ≤ k ∧ k ≤ 8 := by omega
  have hxb := hx
  unfold exB at hxb
  rw [Bool.and_eq_true] at hxb
  obtain ⟨hnode, hnodes⟩ := hxb
  have hex : exT e = ((preA (opr k) e.d ++ preB (opr k) e.d) ++ preC (opr k) e.d) ++ argsT e.d.op true e.kids := ex_parts e.d e.kids k hk hk1 hnode
  have al := alloc_at w (xo e.d u a)
  have X0 := Lib.hid (XAt.new w e.d u a)
  have hb0v : v.ownBlock ≠ some w.heap.size := fun e => by have := (hR.block _ e).2; omega
  have R0 := Lib.hid (hR.keep al)
  have hO0 := hO.keep al
  have O0 := Lib.hid (Own.of_below v al)
  have hrow := hO0 k (by omega)
  have hfr := Lib.hid (fun (W : World) (y : Value) (h : Own v w y W) => (show Below B w W from h.blk (fun g hg => (hR.block g hg).1) hB))
  have hF0 := Lib.hid (fun (W : World) (y : Value) (h : Own v w y W) => hF.frame (T := fun b => b < B) fun b hb hl => ⟨hb, (hfr.out W y h).block b hb⟩)
  have hu0 := Lib.hid (fun (W : World) (y : Value) (h : Own v w y W) => hu.frame (T := fun b => b < B) fun b hb hl => ⟨hb, (hfr.out W y h).block b hb⟩)
  have hOp0 := Lib.hid (fun (W : World) (y : Value) (h : Own v w y W) => (show OpsAt W from hO.block ((hfr.out W y h).block _ hg)))
  have hT := Lib.hid (fun j (hj : j < e.kids.len) => args_sep e.d.op e.kids j hj)
  have hG := Lib.hid (show ∀ j, j < e.kids.len → (e.kids.get j).size ≤ n from fun j hj => by have := Fo.size_get_le e.kids j hj; unfold Ex.size at hn; omega)
  have hGx := Lib.hid (show ∀ j, j < e.kids.len → exB (e.kids.get j) = true from fun j hj => (Fo.nodes_get e.kids).1 hnodes j hj)
  have hwd := Lib.hid (show ∀ j, 0 < j → j < e.kids.len → (opr k).w = wordOf e.d.op from fun j h0 hj => kids_word e.d e.kids.len k hk hk1 hnode (by omega))
  have hws := Lib.hid (show (opr k).ls = true → 1 ≤ e.d.ws.length ∧ e.d.ws.length ≤ 12 from fun h => ws_some e.d e.kids.len k hk hk1 hnode h)
  have hE := Lib.hid (show ∀ j, j = e.kids.len → argsT e.d.op true (e.kids.take j) = argsT e.d.op true e.kids from fun j hj => by rw [hj, Fo.take_len])
  have hLa := Lib.hid (show ∀ j, j < e.kids.len → (argsT e.d.op true (e.kids.take (j + 1))).length ≤ (argsT e.d.op true e.kids).length from fun j hj => args_mono e.d.op e.kids (e.kids.len - (j + 1)) (j + 1) (by omega))
  have hkl := kids_len e.d.op e.kids
  have hlp : L.length + (preA (opr k) e.d).length + (preB (opr k) e.d).length + (preC (opr k) e.d).length + (argsT e.d.op true e.kids).length ≤ 100000 := by
    rw [hex] at hl
    simp only [List.length_append] at hl
    omega
  have hlk : e.kids.len ≤ 1000000 := by omega
  have hA' := Lib.hid (fun (j : Nat) (hj : j < e.kids.len) (y x : Value) (W : World) (M : List Tk) (h1 : Own v w y W) (h2 : TRow B W y M) (h3 : M.length + (argT e.d.op (e.kids.get j).d (e.kids.get j).kids).length ≤ 100000) (h4 : ExS (fun b => b < B) W x (e.kids.get j)) => hA (e.kids.get j) e.d.op x W B y M (hG.out j hj) h4 (hGx.out j hj) h2 h3 (by have := h1.size; omega) (hOp0.out W y h1) hg)
  have hfin := Lib.hid (fun (y : Value) (W : World) (h : TRow B W y (L ++ tksOf (((preA (opr k) e.d ++ preB (opr k) e.d) ++ preC (opr k) e.d) ++ argsT e.d.op true e.kids))) (hO : Own v w y W) => (show ToksO B v (L ++ tksOf (exT e)) w (.returned y) W from ⟨y, rfl, by rw [hex]; exact h, hO⟩))
  have hmr := opr_mr k hk1
  clear hex hl hkl hn hA hx hnode hnodes hO hR hO0 hmr hop
  obtain ⟨pu, cu, rfl, _, _⟩ := hu
  obtain ⟨p, c, rfl, _, _⟩ := hF
  have cN := Lib.hid (fun s w => wordtk_any s w)
  unfold exV
  have hkd := Lib.hid hk
  generalize exT e = ET at *
  generalize e.kids = F at *
  generalize e.d = d at *
  obtain ⟨dop, dnm, dws, dlo, dhi⟩ := d
  simp only at hk
  subst hk
  simp only at *
  have hpa1 := Lib.hid (show (opr k).nm = true → preA (opr k) ⟨(k : Int), dnm, dws, dlo, dhi⟩ = [nmT dnm] from fun h => by unfold preA; rw [if_pos h])
  have hpa0 := Lib.hid (show (opr k).nm = false → preA (opr k) ⟨(k : Int), dnm, dws, dlo, dhi⟩ = [] from fun h => by unfold preA; rw [if_neg (by rw [h]; simp)])
  have hpb1 := Lib.hid (show (opr k).w ≠ [] → (opr k).mr = false → preB (opr k) ⟨(k : Int), dnm, dws, dlo, dhi⟩ = [nmT (opr k).w] from fun h h2 => by unfold preB; rw [if_pos ⟨h, h2⟩])
  have hpb0 := Lib.hid (show ¬ ((opr k).w ≠ [] ∧ (opr k).mr = false) → preB (opr k) ⟨(k : Int), dnm, dws, dlo, dhi⟩ = [] from fun h => by unfold preB; rw [if_neg h])
  have hpc1 := Lib.hid (show (opr k).ls = true → preC (opr k) ⟨(k : Int), dnm, dws, dlo, dhi⟩ = mkT [40] :: listT true dws ++ [mkT [41]] from fun h => by unfold preC; rw [if_pos h])
  have hpc2 := Lib.hid (show (opr k).ls = false → (opr k).rg = true → preC (opr k) ⟨(k : Int), dnm, dws, dlo, dhi⟩ = [noT dlo, nmT wTo, noT dhi] from fun h h2 => by unfold preC; rw [if_neg (by rw [h]; simp), if_pos h2])
  have hpc0 := Lib.hid (show (opr k).ls = false → (opr k).rg = false → preC (opr k) ⟨(k : Int), dnm, dws, dlo, dhi⟩ = [] from fun h h2 => by unfold preC; rw [if_neg (by rw [h]; simp), if_neg (by rw [h2]; simp)])
  generalize preA (opr k) ⟨(k : Int), dnm, dws, dlo, dhi⟩ = PA at *
  generalize preB (opr k) ⟨(k : Int), dnm, dws, dlo, dhi⟩ = PB at *
  generalize preC (opr k) ⟨(k : Int), dnm, dws, dlo, dhi⟩ = PC at *
  generalize opr k = o at *
  obtain ⟨ow, onm, ols, org, olt, omr⟩ := o
  simp only at *
  generalize hm : F.len = m at *
  have hm' := Lib.hid hm
  clear hm
  generalize hnw : dws.length = nw at *
  have hnw' := Lib.hid hnw
  clear hnw
  have he := nm_empty2 ow
  obtain ⟨r0, r1, r2, r3, r4, r5⟩ := hrow
  go_enter Tryz.func48, Tryz.ntmps48
  go_upto_region 1 with fail
  obtain ⟨b0, hb0⟩ : ∃ b, w.heap.size = b := ⟨_, rfl⟩
  rw [hb0] at X0 hb0v ⊢
  have hbB : B ≤ b0 := by omega
  clear hb0
  generalize w.alloc (xo ⟨(k : Int), dnm, dws, dlo, dhi⟩ (.slice pu nw cu) (.slice p m c)) = W0 at *
  obtain ⟨_, y0, y1, y2, y3, y4, y5⟩ := X0.out
  simp only at y0 y1 y3 y4
  go_upto_region 2 with fail
  clear r0 r1 r2 r3 r4 r5 y0 y1 y2 y3 y4 y5
  have al := alloc_at W0 (opO ⟨ow, onm, ols, org, olt, omr⟩)
  have O3 := Lib.hid (O0.out.below al)
  have K3 := Lib.hid (OAt6.new W0 ⟨ow, onm, ols, org, olt, omr⟩)
  have X3 := Lib.hid (X0.out.keep al)
  have R3 := Lib.hid (R0.out.keep al)
  have hb3v : v.ownBlock ≠ some W0.heap.size := fun e => by have := (R0.out.block _ e).2; omega
  obtain ⟨b3, hb3⟩ : ∃ b, W0.heap.size = b := ⟨_, rfl⟩
  have hx0l : b0 < W0.heap.size := X0.out.1
  rw [hb3] at K3 hb3v hx0l ⊢
  clear hb3 al O0 X0 R0
  generalize W0.alloc (opO ⟨ow, onm, ols, org, olt, omr⟩) = W3 at *
  have hBW : B ≤ W3.heap.size := by have := X3.out.1; omega
  obtain ⟨_, z0, z1, z2, z3, z4, z5⟩ := K3.out
  obtain ⟨_, y0, y1, y2, y3, y4, y5⟩ := X3.out
  simp only at y0 y1 y3 y4 z0 z1 z2 z3 z4 z5
  go_upto_if 13 with (fail)
  go_cut [0] (fun x0 wx => Hid (TRow B wx x0 (L ++ tksOf PA)) ∧ Hid (Own v W3 x0 wx))
  case first =>
    cases onm with
    | false =>
      have hR := Lib.hid (show TRow B W3 v (L ++ tksOf PA) from by rw [hpa0.out rfl]; show TRow B W3 v (L ++ []); rw [List.append_nil]; exact R3.out)
      go_wp2_with fail
      go_meet
      case rel => exact ⟨hR, Lib.hid (Own.refl _ _)⟩
    | true =>
      have hP := Lib.hid (hpa1.out rfl)
      go_wp2_with fail
      refine (cN.out dnm W3).mono ?_; rintro e w1 ⟨rfl, hB1⟩
      have hal := alloc_at w1 (.cells (flat4 (tksOf [nmT dnm])).toArray 71)
      have Oa := Lib.hid ((Own.of_below v hB1).below hal)
      have Ra := Lib.hid ((R3.out.keep hB1).keep hal)
      have hBa : B ≤ (w1.alloc (.cells (flat4 (tksOf [nmT dnm])).toArray 71)).heap.size := by have := Oa.out.size; omega
      have Ma := Lib.hid (lit_toks w1 [nmT dnm] w1.heap.size rfl 1 rfl)
      clear hB1 hal y0 y1 y2 y3 y4 y5 z0 z1 z2 z3 z4 z5
      simp only [tkv, nmT]
      go_wp2_with (at_builtin; refine wpList_app_toks rfl (.tmp 14) (.tmp 18) rfl B v (L) rfl Ra.out _ (tksOf [nmT dnm]) rfl Ma.out (by rw [tksOf_len]; exact Nat.zero_lt_succ _) (by simp only [tksOf_len, List.length_singleton]; omega) hBa ?_; intro v3 w3 hX3 hO3; refine Hid.out ?_)
      refine Lib.hid ?_
      rw [← hP.out] at hX3
      have R4 := Lib.hid hX3
      have O4 := Lib.hid (Oa.out.trans hO3)
      clear hX3 hO3 Oa Ra Ma
      go_wp2_with fail
      go_meet
      case rel => exact ⟨R4, O4⟩
  case rest =>
    clear y0 y1 y2 y3 y4 y5 z0 z1 z2 z3 z4 z5
    obtain ⟨R4, O4⟩ := hcut
    clear R3 hpa1 hpa0
    have hBc : B ≤ wc.heap.size := by have := O4.out.size; omega
    obtain ⟨_, z0, z1, z2, z3, z4, z5⟩ := K3.out.own O4.out hb3v
    obtain ⟨_, y0, y1, y2, y3, y4, y5⟩ := X3.out.own O4.out hb0v
    simp only at y0 y1 y3 y4 z0 z1 z2 z3 z4 z5
    generalize wc = W4 at *
    generalize u0 = v4 at *
    go_upto_region 4 with fail
    go_cut [27] (fun x27 wx => x27 = .bool (!decide (ow = []) && !omr) ∧ wx = W4)
    case first =>
      by_cases how : ow = []
      · have e1 := Lib.hid (decide_eq_true how)
        rw [e1.out] at he
        clear how
        go_wp2_with fail
        go_meet
        case rel => exact ⟨by rw [e1.out]; rfl, rfl⟩
      · have e1 := Lib.hid (decide_eq_false how)
        rw [e1.out] at he
        clear how
        cases omr with
        | true =>
          go_wp2_with fail
          go_meet
          case rel => exact ⟨by rw [e1.out]; rfl, rfl⟩
        | false =>
          go_wp2_with fail
          go_meet
          case rel => exact ⟨by rw [e1.out]; rfl, rfl⟩
    case rest =>
    obtain ⟨rfl, hwc⟩ := hcut
    subst hwc
    go_upto_if 27 with (fail)
    go_cut [0] (fun x0 wx => Hid (TRow B wx x0 ((L ++ tksOf PA) ++ tksOf PB)) ∧ Hid (Own v4 wc x0 wx))
    case first =>
      by_cases how : (ow ≠ [] ∧ omr = false)
      · have hP := Lib.hid (hpb1.out how.1 how.2)
        have ht : (!decide (ow = []) && !omr) = true := by rw [decide_eq_false how.1, how.2]; rfl
        rw [ht]
        clear how ht
        go_wp2_with fail
        refine (cN.out ow wc).mono ?_; rintro e w1 ⟨rfl, hB1⟩
        have hal := alloc_at w1 (.cells (flat4 (tksOf [nmT ow])).toArray 71)
        have Oa := Lib.hid ((Own.of_below v4 hB1).below hal)
        have Ra := Lib.hid ((R4.out.keep hB1).keep hal)
        have hBa : B ≤ (w1.alloc (.cells (flat4 (tksOf [nmT ow])).toArray 71)).heap.size := by have := Oa.out.size; omega
        have Ma := Lib.hid (lit_toks w1 [nmT ow] w1.heap.size rfl 1 rfl)
        clear hB1 hal y0 y1 y2 y3 y4 y5 z0 z1 z2 z3 z4 z5
        simp only [tkv, nmT]
        go_wp2_with (at_builtin; refine wpList_app_toks rfl (.tmp 28) (.tmp 32) rfl B v4 (L ++ tksOf PA) rfl Ra.out _ (tksOf [nmT ow]) rfl Ma.out (by rw [tksOf_len]; exact Nat.zero_lt_succ _) (by simp only [List.length_append, tksOf_len, List.length_singleton]; omega) hBa ?_; intro v3 w3 hX3 hO3; refine Hid.out ?_)
        refine Lib.hid ?_
        rw [← hP.out] at hX3
        have R5 := Lib.hid hX3
        have O5 := Lib.hid (Oa.out.trans hO3)
        clear hX3 hO3 Oa Ra Ma
        go_wp2_with fail
        go_meet
        case rel => exact ⟨R5, O5⟩
      · have hP := Lib.hid (hpb0.out how)
        have ht : (!decide (ow = []) && !omr) = false := by
          by_cases h1 : ow = []
          · rw [decide_eq_true h1]; rfl
          · cases omr with
            | true => simp
            | false => exact absurd ⟨h1, rfl⟩ how
        rw [ht]
        have hR := Lib.hid (show TRow B wc v4 ((L ++ tksOf PA) ++ tksOf PB) from by rw [hP.out]; show TRow B wc v4 ((L ++ tksOf PA) ++ []); rw [List.append_nil]; exact R4.out)
        clear how ht
        go_wp2_with fail
        go_meet
        case rel => exact ⟨hR, Lib.hid (Own.refl _ _)⟩
    case rest =>
      clear y0 y1 y2 y3 y4 y5 z0 z1 z2 z3 z4 z5
      obtain ⟨R5, O5'⟩ := hcut
      have O5 := Lib.hid (O4.out.trans O5'.out)
      clear R4 O4 O5' hpb1 hpb0 he hBc
      have hBc : B ≤ wc.heap.size := by have := O5.out.size; omega
      obtain ⟨_, z0, z1, z2, z3, z4, z5⟩ := K3.out.own O5.out hb3v
      obtain ⟨_, y0, y1, y2, y3, y4, y5⟩ := X3.out.own O5.out hb0v
      simp only at y0 y1 y3 y4 z0 z1 z2 z3 z4 z5
      generalize wc = W5 at *
      generalize u0 = v5 at *
      go_upto_block 0 with (fail)
      go_cut [0] (fun x0 wx => Hid (TRow B wx x0 (((L ++ tksOf PA) ++ tksOf PB) ++ tksOf PC)) ∧ Hid (Own v5 W5 x0 wx))
      case first =>
        cases ols with
        | true =>
          have hP := Lib.hid (hpc1.out rfl)
          have hw12 := hws.out rfl
          have hpcl : PC.length + 1 = 2 * nw + 2 := by
            have h1 := list_len1 dws (by rw [hnw'.out]; exact hw12.1)
            rw [hnw'.out] at h1
            rw [hP.out, List.length_append, List.length_cons, List.length_singleton]
            omega
          have hsw := hu0.out W5 v5 (O3.out.trans O5.out)
          have cW := Lib.hid (pwwords_any v5 ((L ++ tksOf PA) ++ tksOf PB) _ dws W5 B R5.out hsw (by rw [hnw'.out]; omega) (by rw [hnw'.out]; simp only [List.length_append, tksOf_len]; omega) hBc)
          rw [← hP.out] at cW
          clear hsw hw12 hpcl
          go_wp2_with fail
          refine cW.out.mono ?_; rintro e w1 ⟨y, rfl, hY, hO1⟩
          have R6 := Lib.hid hY
          have O6 := Lib.hid hO1
          clear hY hO1 cW y0 y1 y2 y3 y4 y5 z0 z1 z2 z3 z4 z5
          go_wp2_with fail
          go_meet
          case rel => exact ⟨R6, O6⟩
        | false =>
          cases org with
          | false =>
            have hP := Lib.hid (hpc0.out rfl rfl)
            have hR := Lib.hid (show TRow B W5 v5 (((L ++ tksOf PA) ++ tksOf PB) ++ tksOf PC) from by rw [hP.out]; show TRow B W5 v5 (((L ++ tksOf PA) ++ tksOf PB) ++ []); rw [List.append_nil]; exact R5.out)
            go_wp2_with fail
            go_meet
            case rel => exact ⟨hR, Lib.hid (Own.refl _ _)⟩
          | true =>
            have hP := Lib.hid (hpc2.out rfl rfl)
            have cLo := Lib.hid (fun w => numtk_any dlo w)
            have cHi := Lib.hid (fun w => numtk_any dhi w)
            have cTo := Lib.hid (fun w => (show Calls Tryz.prog 69 #[.string { data := #[116, 111] }] w (TokR (nmT wTo) w) from wordtk_any wTo w))
            have hcel := Lib.hid (fun (W : World) (hb : Below W5.heap.size W5 W) => (show W.cell? ⟨b0, 3, none⟩ = some (.int .i64 dlo) ∧ W.cell? ⟨b0, 4, none⟩ = some (.int .i64 dhi) from ⟨cell_same y3 (hb.block b0), cell_same y4 (hb.block b0)⟩))
            have hown := Lib.hid (fun (W W' : World) (y : Value) (h : Own v5 W5 y W) => (show W.cell? ⟨b0, 3, none⟩ = some (.int .i64 dlo) ∧ W.cell? ⟨b0, 4, none⟩ = some (.int .i64 dhi) from by
              have h1 := (X3.out.own (O5.out.trans h) hb0v)
              exact ⟨h1.2.2.2.2.1, h1.2.2.2.2.2.1⟩))
            have hlq : ((L ++ tksOf PA) ++ tksOf PB).length + 3 ≤ 100000 := by
              have h1 : PC.length = 3 := by rw [hP.out]; rfl
              simp only [List.length_append, tksOf_len]
              omega
            clear y0 y1 y2 y5 z0 z1 z4 z5
            go_wp2_with fail
            go_region_held3 (fun w' => w'.cell? ⟨b0, 3, none⟩ = some (.int .i64 dlo) ∧ w'.cell? ⟨b0, 4, none⟩ = some (.int .i64 dhi))
              ((first
                | exact hcel.out _ (below_drewN (Below.refl _ _) 1)
                | exact hown.out _ wD _ oE.out
                | exact hcel.out _ (trans_b hzC.out (alloc_at _ _))
                | exact hcel.out _ hzC.out
                | exact hcel.out _ hzB.out
                | exact hcel.out _ hzA.out))
              (first
                | (go_at_call 71; (with_reducible refine (cLo.out _).mono ?_); rintro e wA ⟨rfl, hB1⟩; have hzA := Lib.hid (trans_b (below_drewN (Below.refl W5.heap.size W5) 1) hB1); simp only [tkv, noT])
                | (go_at_call 69; (with_reducible refine (cTo.out _).mono ?_); rintro e wB ⟨rfl, hB2⟩; have hzB := Lib.hid (trans_b hzA.out hB2); simp only [tkv, nmT])
                | (go_at_call 71; (with_reducible refine (cHi.out _).mono ?_); rintro e wC ⟨rfl, hB3⟩; have hzC := Lib.hid (trans_b hzB.out hB3); simp only [tkv, noT])
                | ((with_reducible refine step_app_toks (o := ⟨some 53, _, _, _, _, _⟩) ?_ ?_ ?_ ?_ B v5 ((L ++ tksOf PA) ++ tksOf PB) ?_ ?_ ?_ (tksOf [noT dlo, nmT wTo, noT dhi]) ?_ ?_ ?_ ?_ ?_ ?_); (rfl); (rotate_left 2); (rfl); (rfl); (exact R5.out.keep (trans_b hzC.out (alloc_at _ _))); (rotate_left 1); (rfl); (exact lit_toks wC [noT dlo, nmT wTo, noT dhi] wC.heap.size rfl 3 rfl); (rw [tksOf_len]; exact Nat.zero_lt_succ _); (rw [tksOf_len]; exact Nat.le_trans hlq (by decide)); (exact Nat.le_trans hBc (trans_b hzC.out (alloc_at _ _)).size); intro yD wD hYD hOD; have oE := Lib.hid (((Own.of_below v5 hzC.out).below (alloc_at wC _)).trans hOD); have rE := Lib.hid hYD; clear hYD hOD))
            all_goals
              have R6 := Lib.hid (show TRow B wD yD (((L ++ tksOf PA) ++ tksOf PB) ++ tksOf PC) from by rw [hP.out]; exact rE.out)
              clear rE
              go_wp2_with fail
              go_meet
              case rel => exact ⟨R6, oE⟩
      case rest =>
        clear y0 y1 y2 y3 y4 y5 z0 z1 z2 z3 z4 z5
        obtain ⟨R6, O6'⟩ := hcut
        have O6 := Lib.hid (O5.out.trans O6'.out)
        clear R5 O5 O6' hpc1 hpc2 hpc0 hBc hu0 hws
        obtain ⟨_, y0, y1, y2, y3, y4, y5⟩ := X3.out.own O6.out hb0v
        simp only at y0 y1 y3 y4
        have hz := Lib.hid (show ((L ++ tksOf PA) ++ tksOf PB) ++ tksOf PC = L ++ tksOf ((PA ++ PB) ++ PC) from by rw [tksOf_app, tksOf_app]; simp only [List.append_assoc])
        rw [hz.out] at R6
        have hPl : L.length + ((PA ++ PB) ++ PC).length + (argsT (k : Int) true F).length ≤ 100000 := by simp only [List.length_append]; omega
        have hfin2 := Lib.hid (fun (y : Value) (W : World) (h : TRow B W y (L ++ tksOf (((PA ++ PB) ++ PC) ++ argsT (k : Int) true F))) (hO : Own v W3 y W) => hfin.out y W h (O3.out.trans hO))
        clear hz hlp hfin
        generalize (PA ++ PB) ++ PC = PP at *
        generalize wc = W6 at *
        generalize u0 = v6 at *
        go_wp2_with fail
        go_loopw [0, 57] (fun x0 x9 wr => ∃ (j : Nat), j ≤ m ∧ x9 = .int .i64 j ∧ Hid (TRow B wr x0 (L ++ tksOf (PP ++ argsT (k : Int) true (F.take j)))) ∧ Hid (Own v W3 x0 wr)) (fun _ x9 _ => m - (RowKit.intOf x9).toNat)
        case atStart => exact ⟨0, Nat.zero_le _, rfl, Lib.hid (by show TRow B W6 v6 (L ++ tksOf (PP ++ [])); rw [List.append_nil]; exact R6.out), O6⟩
        case round =>
          obtain ⟨j, hj, rfl, hS, hO⟩ := hrel
          clear y0 y1 y2 y3 y4 y5
          by_cases hlt : j < m
          · obtain ⟨b, o', c', hv, _, hbl, ue, ae, q0, q1, q2, q3, q4, q5, e1, e2⟩ := (hF0.out wr _ (O3.out.trans hO.out)).elem j (by rw [hm'.out]; exact hlt)
            obtain ⟨rfl, hmm, rfl⟩ := Value.slice.inj hv
            clear hmm
            have hk64 : IntKind.i64.wrap ((j : Int) + 1) = (j : Int) + 1 := IntWalk.i64_in _ (by omega)
            have hx := Lib.hid (show ExS (fun b => b < B) wr (exV (F.get j).d ue ae) (F.get j) from ⟨ue, ae, rfl, e1, e2⟩)
            obtain ⟨sep, hsep0, hsepn', hT1⟩ := hT.out j hlt
            have hLa1 := hLa.out j hlt
            have hsepn : j ≠ 0 → sep = [nmT ow] := fun h => by rw [hsepn' h, hwd.out j (by omega) hlt]
            have hsl : (argsT (k : Int) true (F.take (j + 1))).length = (argsT (k : Int) true (F.take j)).length + (sep.length + (argT (k : Int) (F.get j).d (F.get j).kids).length) := by rw [hT1, List.length_append, List.length_append]
            have hl7 : (L ++ tksOf (PP ++ argsT (k : Int) true (F.take j))).length + sep.length + (argT (k : Int) (F.get j).d (F.get j).kids).length ≤ 100000 := by
              simp only [List.length_append, tksOf_len] at hPl ⊢
              omega
            have hnext := Lib.hid (show ((L ++ tksOf (PP ++ argsT (k : Int) true (F.take j))) ++ tksOf sep) ++ tksOf (argT (k : Int) (F.get j).d (F.get j).kids) = L ++ tksOf (PP ++ argsT (k : Int) true (F.take (j + 1))) from by
              rw [hT1]; simp only [tksOf_app, List.append_assoc])
            clear hsepn' hT1 hsl hLa1
            obtain ⟨p1, k1, rfl, _, _⟩ := e1
            obtain ⟨p2, k2, rfl, _, _⟩ := e2
            clear hv
            have hal := alloc_at wr (xo (F.get j).d (.slice p1 (F.get j).d.ws.length k1) (.slice p2 (F.get j).kids.len k2))
            have G7 := Lib.hid (XAt.new wr (F.get j).d (.slice p1 (F.get j).d.ws.length k1) (.slice p2 (F.get j).kids.len k2))
            have O7 := Lib.hid (hO.out.below hal)
            have R7 := Lib.hid (hS.out.keep hal)
            have E7 := Lib.hid (hx.out.below hal)
            have hgv : u0.ownBlock ≠ some wr.heap.size := fun e => by have := (hS.out.block _ e).2; omega
            have hBw7 : B ≤ (wr.alloc (xo (F.get j).d (.slice p1 (F.get j).d.ws.length k1) (.slice p2 (F.get j).kids.len k2))).heap.size := by have := O7.out.size; omega
            have cS := Lib.hid (hA'.out j hlt)
            go_upto_region 13 with fail
            clear q0 q1 q2 q3 q4 q5 hS hO hal
            obtain ⟨b7, hb7⟩ : ∃ b, wr.heap.size = b := ⟨_, rfl⟩
            rw [hb7] at G7 hgv ⊢
            clear hb7
            generalize wr.alloc (xo (F.get j).d (.slice p1 (F.get j).d.ws.length k1) (.slice p2 (F.get j).kids.len k2)) = W7 at *
            obtain ⟨_, z0, z1, z2, z3, z4, z5⟩ := K3.out.own O7.out hb3v
            obtain ⟨_, y0, y1, y2, y3, y4, y5⟩ := X3.out.own O7.out hb0v
            simp only at y0 y1 y3 y4 z0 z1 z2 z3 z4 z5
            unfold exV at E7 cS
            generalize (F.get j).d = dj at *
            generalize (F.get j).kids.len = nj at *
            generalize dj.ws.length = wj at *
            generalize u0 = vr at *
            go_upto_if 63 with (fail)
            go_cut [0] (fun x0 wx => Hid (TRow B wx x0 ((L ++ tksOf (PP ++ argsT (k : Int) true (F.take j))) ++ tksOf sep)) ∧ Hid (Own vr W7 x0 wx))
            case first =>
              by_cases hj0 : j = 0
              · have t2 : decide (0 < j) = false := decide_eq_false (by omega)
                rw [t2]
                clear t2
                have R8 := Lib.hid (show TRow B W7 vr ((L ++ tksOf (PP ++ argsT (k : Int) true (F.take j))) ++ tksOf sep) from by rw [hsep0 hj0]; show TRow B W7 vr (_ ++ []); rw [List.append_nil]; exact R7.out)
                clear hj0 hsep0 hsepn
                go_wp2_with fail
                go_meet
                case rel => exact ⟨R8, Lib.hid (Own.refl _ _)⟩
              · have t2 : decide (0 < j) = true := decide_eq_true (by omega)
                rw [t2]
                clear t2
                have hsep1 := Lib.hid (show (L ++ tksOf (PP ++ argsT (k : Int) true (F.take j))) ++ tksOf [nmT ow] = (L ++ tksOf (PP ++ argsT (k : Int) true (F.take j))) ++ tksOf sep from by rw [hsepn hj0])
                have hll1 : (L ++ tksOf (PP ++ argsT (k : Int) true (F.take j))).length ≤ 100000 := by omega
                clear hj0 hsep0 hsepn
                go_wp2_with fail
                refine (cN.out ow W7).mono ?_; rintro e w1 ⟨rfl, hB1⟩
                have hal := alloc_at w1 (.cells (flat4 (tksOf [nmT ow])).toArray 71)
                have Oa := Lib.hid ((Own.of_below vr hB1).below hal)
                have Ra := Lib.hid ((R7.out.keep hB1).keep hal)
                have hBa : B ≤ (w1.alloc (.cells (flat4 (tksOf [nmT ow])).toArray 71)).heap.size := by have := Oa.out.size; omega
                have Ma := Lib.hid (lit_toks w1 [nmT ow] w1.heap.size rfl 1 rfl)
                clear hB1 hal y0 y1 y2 y3 y4 y5 z0 z1 z2 z3 z4 z5
                simp only [tkv, nmT]
                go_wp2_with (at_builtin; refine wpList_app_toks rfl (.tmp 64) (.tmp 68) rfl B vr (L ++ tksOf (PP ++ argsT (k : Int) true (F.take j))) rfl Ra.out _ (tksOf [nmT ow]) rfl Ma.out (by rw [tksOf_len]; exact Nat.zero_lt_succ _) (by rw [tksOf_len, List.length_singleton]; omega) hBa ?_; intro v3 w3 hX3 hO3; refine Hid.out ?_)
                refine Lib.hid ?_
                rw [hsep1.out] at hX3
                have R8 := Lib.hid hX3
                have O8 := Lib.hid (Oa.out.trans hO3)
                clear hX3 hO3 Oa Ra Ma
                go_wp2_with fail
                go_meet
                case rel => exact ⟨R8, O8⟩
            case rest =>
              clear y0 y1 y2 y3 y4 y5 z0 z1 z2 z3 z4 z5
              obtain ⟨R8, O8'⟩ := hcut
              have O8 := Lib.hid (O7.out.trans O8'.out)
              obtain ⟨_, y0, y1, y2, y3, y4, y5⟩ := X3.out.own O8.out hb0v
              simp only at y0 y1 y3 y4
              obtain ⟨_, g0, g1, g2, g3, g4, g5⟩ := G7.out.own O8'.out hgv
              have E8 := Lib.hid (E7.out.frame (T := fun b => b < B) fun b hb _ => ⟨hb, (O8'.out.blk (fun g hg => (R7.out.block g hg).1) hBw7).block b hb⟩)
              have hl8 : ((L ++ tksOf (PP ++ argsT (k : Int) true (F.take j))) ++ tksOf sep).length + (argT (k : Int) dj (F.get j).kids).length ≤ 100000 := by rw [List.length_append, tksOf_len]; exact hl7
              have cT := Lib.hid (cS.out u0 _ wc _ (O3.out.trans O8.out) R8.out hl8 E8.out)
              clear cS R7 O7 E7 G7 hsep0 hsepn hl7 hl8 hgv
              go_wp2_with fail
              refine cT.out.mono ?_; rintro e w9 ⟨y, rfl, hY, hO9⟩
              rw [hnext.out] at hY
              have R9 := Lib.hid hY
              have O9 := Lib.hid (O8.out.trans hO9)
              clear hY hO9 cT R8 O8 O8' E8 y0 y1 y2 y3 y4 y5 g0 g1 g2 g3 g4 g5
              go_wp2_with fail
              go_roundw
              case rel => exact ⟨j + 1, by omega, by go_num, R9, O9⟩
              case measure => simp [RowKit.intOf]; omega
          · have hEk := Lib.hid (hE.out j (by omega))
            have hf := Lib.hid (hfin2.out _ _ (by rw [← hEk.out]; exact hS.out) hO.out)
            go_wp2_with fail
            go_ret
            exact hf.out
theorem wr_all : ∀ n, WrOk n := by
  intro n
  induction n with
  | zero => intro e x w B v L h; have := size_pos e; omega
  | succ n ih => exact wr_step n (arg_of n ih)
end Go.Proofs.YtjmipikahaoblaaGreatDoor.Syn
namespace Go.Proofs.YtjmipikahaoblaaGreatDoor.Syn
open Go.RowKit Go.Lib Go.Proofs.YtjmipikahaoblaaGreatDoor.Bas Go.Proofs.YtjmipikahaoblaaGreatDoor.Cal Go.Proofs.YtjmipikahaoblaaGreatDoor.Lx Go.Proofs.YtjmipikahaoblaaGreatDoor.Sc
set_option linter.unusedVariables false

theorem list_sep (ws : List (List UInt8)) (k : Nat) (h : k < ws.length) : ∃ sep : List Tok, (k = 0 → sep = []) ∧ (k ≠ 0 → sep = [mkT [44]]) ∧ listT true (ws.take (k + 1)) = listT true (ws.take k) ++ (sep ++ [nmT (ws.getD k [])]) :=
  ⟨if true = true ∧ k = 0 then [] else [mkT [44]], fun h => if_pos ⟨rfl, h⟩, fun h => if_neg (fun x => h x.2), list_take ws true k h⟩
set_option maxRecDepth 8000 in
set_option maxHeartbeats 8000000 in
theorem rlisted_any (v : Value) (L : List Tk) (u : Value) (ws : List (List UInt8)) (w : World) (B : Nat) (hR : TRow B w v L) (hS : StrsS (fun b => b < B) w u ws) (hL : L.length + 2 * ws.length ≤ 200000) (hB : B ≤ w.heap.size) :
    Calls Tryz.prog 75 #[v, u] w (ToksO B v (L ++ tksOf (listT true ws)) w) := by
  have hF := Lib.hid (fun (W : World) (y : Value) (hO : Own v w y W) => hS.frame (T := fun b => b < B) fun b hb hl => ⟨hb, (hO.blk (fun g hg => (hR.block g hg).1) hB).block b hb⟩)
  have hR' := Lib.hid hR
  have hsep := Lib.hid (fun k (hk : k < ws.length) => list_sep ws k hk)
  have hend := Lib.hid (show ∀ k, k = ws.length → listT true (ws.take k) = listT true ws from fun k hk => by rw [hk, List.take_length])
  have hlp := Lib.hid (show ∀ k, (L ++ tksOf (listT true (ws.take k))).length ≤ 200000 from fun k => by
    have h1 := (list_len (ws.take k)).1
    have h2 : (ws.take k).length ≤ ws.length := by rw [List.length_take]; omega
    rw [List.length_append, tksOf_len]; omega)
  have hz : tksOf (listT true (ws.take 0)) = [] := rfl
  have hfin := Lib.hid (fun (y : Value) (W : World) (h : TRow B W y (L ++ tksOf (listT true ws))) (hO : Own v w y W) => (show ToksO B v (L ++ tksOf (listT true ws)) w (.returned y) W from ⟨y, rfl, h, hO⟩))
  have cM := Lib.hid (fun w => (show Calls Tryz.prog 76 #[.string { data := #[44] }] w (TokR (mkT [44]) w) from rmark_any [44] w))
  have cN := Lib.hid (fun s w => rword_any s w)
  obtain ⟨p, c, rfl, hcc, _⟩ := hS
  obtain ⟨n, hn⟩ : ∃ n, ws.length = n := ⟨_, rfl⟩
  have hn' := Lib.hid hn
  rw [hn] at hL hsep hend hF ⊢
  clear hn hcc hR
  go_enter Tryz.func75, Tryz.ntmps75
  go_wp2_with fail
  go_loopw [0, 5] (fun x0 x5 wr => ∃ k : Nat, k ≤ n ∧ x5 = .int .i64 k ∧ Hid (TRow B wr x0 (L ++ tksOf (listT true (ws.take k)))) ∧ Hid (Own v w x0 wr)) (fun _ x _ => n - (RowKit.intOf x).toNat)
  case atStart => exact ⟨0, Nat.zero_le _, rfl, Lib.hid (by rw [hz, List.append_nil]; exact hR'.out), Lib.hid (Own.refl _ _)⟩
  case round =>
    obtain ⟨k, hk, rfl, hX, hO⟩ := hrel
    have hl1 := hlp.out k
    have hBw : B ≤ wr.heap.size := by have := hO.out.size; omega
    by_cases hlt : k < n
    · obtain ⟨sep, hs0, hsn, hsT⟩ := hsep.out k hlt
      have hnext := Lib.hid (show ((L ++ tksOf (listT true (ws.take k))) ++ tksOf sep) ++ tksOf [nmT (ws.getD k [])] = L ++ tksOf (listT true (ws.take (k + 1))) from by rw [hsT]; simp only [tksOf_app, List.append_assoc])
      have hk64 : IntKind.i64.wrap ((k : Int) + 1) = (k : Int) + 1 := IntWalk.i64_in _ (by omega)
      have hsl : sep.length ≤ 1 := by
        by_cases h : k = 0
        · rw [hs0 h]; simp
        · rw [hsn h]; simp
      clear hsT
      generalize u0 = vr at *
      go_upto_if 13 with (fail)
      go_cut [0] (fun x0 wx => Hid (TRow B wx x0 ((L ++ tksOf (listT true (ws.take k))) ++ tksOf sep)) ∧ Hid (Own vr wr x0 wx))
      case first =>
        by_cases hk0 : k = 0
        · have t2 : decide (0 < k) = false := decide_eq_false (by omega)
          have R8 := Lib.hid (show TRow B wr vr ((L ++ tksOf (listT true (ws.take k))) ++ tksOf sep) from by rw [hs0 hk0]; show TRow B wr vr (_ ++ []); rw [List.append_nil]; exact hX.out)
          rw [t2]
          clear t2 hk0 hs0 hsn
          go_wp2_with fail
          go_meet
          case rel => exact ⟨R8, Lib.hid (Own.refl _ _)⟩
        · have t2 : decide (0 < k) = true := decide_eq_true (by omega)
          have hP := Lib.hid (hsn hk0)
          rw [t2]
          clear t2 hk0 hs0 hsn
          go_wp2_with fail
          refine (cM.out wr).mono ?_; rintro e w1 ⟨rfl, hB1⟩
          have hal := alloc_at w1 (.cells (flat4 (tksOf [mkT [44]])).toArray 71)
          have Oa := Lib.hid ((Own.of_below vr hB1).below hal)
          have Ra := Lib.hid ((hX.out.keep hB1).keep hal)
          have hBa : B ≤ (w1.alloc (.cells (flat4 (tksOf [mkT [44]])).toArray 71)).heap.size := by have := Oa.out.size; omega
          have Ma := Lib.hid (lit_toks w1 [mkT [44]] w1.heap.size rfl 1 rfl)
          clear hB1 hal
          simp only [tkv, mkT]
          go_wp2_with (at_builtin; refine wpList_app_toks rfl (.tmp 14) (.tmp 16) rfl B vr (L ++ tksOf (listT true (ws.take k))) rfl Ra.out _ (tksOf [mkT [44]]) rfl Ma.out (by rw [tksOf_len]; exact Nat.zero_lt_succ _) (by rw [tksOf_len, List.length_singleton]; omega) hBa ?_; intro v3 w3 hX3 hO3; refine Hid.out ?_)
          refine Lib.hid ?_
          rw [← hP.out] at hX3
          have R8 := Lib.hid hX3
          have O8 := Lib.hid (Oa.out.trans hO3)
          clear hX3 hO3 Oa Ra Ma
          go_wp2_with fail
          go_meet
          case rel => exact ⟨R8, O8⟩
      case rest =>
        obtain ⟨R8, O8'⟩ := hcut
        have O8 := Lib.hid (hO.out.trans O8'.out)
        have hBc : B ≤ wc.heap.size := by have := O8.out.size; omega
        obtain ⟨p', c', hv, _, hp⟩ := hF.out wc _ O8.out
        rw [hn'.out] at hv hp
        obtain ⟨rfl, _, rfl⟩ := Value.slice.inj hv
        obtain ⟨b, off, rfl, hb, hc⟩ := hp (by omega)
        have hck := hc k hlt
        have hl8 : ((L ++ tksOf (listT true (ws.take k))) ++ tksOf sep).length ≤ 200001 := by rw [List.length_append, tksOf_len]; omega
        clear hc hp hv O8' hX hO hs0 hsn hsl
        generalize ws.getD k [] = y at *
        generalize u0 = v8 at *
        generalize wc = W8 at *
        go_wp2_with fail
        refine (cN.out y W8).mono ?_; rintro e w1 ⟨rfl, hB1⟩
        have hal := alloc_at w1 (.cells (flat4 (tksOf [nmT y])).toArray 71)
        have Oa := Lib.hid ((Own.of_below v8 hB1).below hal)
        have Ra := Lib.hid ((R8.out.keep hB1).keep hal)
        have hBa : B ≤ (w1.alloc (.cells (flat4 (tksOf [nmT y])).toArray 71)).heap.size := by have := Oa.out.size; omega
        have Ma := Lib.hid (lit_toks w1 [nmT y] w1.heap.size rfl 1 rfl)
        clear hB1 hal hck
        simp only [tkv, nmT]
        go_wp2_with (at_builtin; refine wpList_app_toks rfl (.tmp 18) (.tmp 24) rfl B v8 ((L ++ tksOf (listT true (ws.take k))) ++ tksOf sep) rfl Ra.out _ (tksOf [nmT y]) rfl Ma.out (by rw [tksOf_len]; exact Nat.zero_lt_succ _) (by rw [tksOf_len]; simp only [List.length_cons, List.length_nil]; omega) hBa ?_; intro v3 w3 hX3 hO3; refine Hid.out ?_)
        refine Lib.hid ?_
        rw [hnext.out] at hX3
        have R9 := Lib.hid hX3
        have O9 := Lib.hid (O8.out.trans (Oa.out.trans hO3))
        clear hX3 hO3 Oa Ra Ma R8 O8
        go_wp2_with fail
        go_roundw
        case rel => exact ⟨k + 1, by omega, by go_num, R9, O9⟩
        case measure => simp [RowKit.intOf]; omega
    · have he := Lib.hid (hend.out k (by omega))
      have hf := Lib.hid (hfin.out _ _ (by rw [← he.out]; exact hX.out) hO.out)
      go_wp2_with fail
      go_ret
      exact hf.out
end Go.Proofs.YtjmipikahaoblaaGreatDoor.Syn
namespace Go.Proofs.YtjmipikahaoblaaGreatDoor.Syn
open Go.RowKit Go.Lib Go.Proofs.YtjmipikahaoblaaGreatDoor.Bas Go.Proofs.YtjmipikahaoblaaGreatDoor.Cal Go.Proofs.YtjmipikahaoblaaGreatDoor.Lx Go.Proofs.YtjmipikahaoblaaGreatDoor.Sc
set_option linter.unusedVariables false

abbrev xq (k : Int) (nm : List UInt8) (u : Value) (lo hi : Int) (a : Value) : Value := .agg #[.int .i64 k, .string (tx nm), u, .int .i64 lo, .int .i64 hi, a]
set_option maxHeartbeats 4000000 in
theorem rt_1 (nm : List UInt8) (pu : Option Addr) (nw cu : Nat) (lo hi : Int) (p : Option Addr) (m c : Nat) (w : World) (B : Nat) (v : Value) (L : List Tk) (hR : TRow B w v L) (hl : L.length ≤ 100000) (hB : B ≤ w.heap.size) : Calls Tryz.prog 50 #[v, xq 1 nm (.slice pu nw cu) lo hi (.slice p m c)] w (ToksO B v (L ++ tksOf [nmT wTrue]) w) := by
  have al := alloc_at w (xo ⟨1, nm, [], lo, hi⟩ (.slice pu nw cu) (.slice p m c))
  have R0 := Lib.hid (hR.keep al)
  have O0 := Lib.hid (Own.of_below v al)
  have X0 := Lib.hid (XAt.new w ⟨1, nm, [], lo, hi⟩ (.slice pu nw cu) (.slice p m c))
  have hb0v : v.ownBlock ≠ some w.heap.size := fun e => by have := (hR.block _ e).2; omega
  have cN := Lib.hid (fun W => (show Calls Tryz.prog 74 #[.string { data := #[116, 114, 117, 101] }] W (TokR (nmT wTrue) W) from rword_any wTrue W))
  go_enter Tryz.func50, Tryz.ntmps50
  go_upto_region 1 with fail
  obtain ⟨b0, hb0⟩ : ∃ b, w.heap.size = b := ⟨_, rfl⟩
  rw [hb0] at X0 hb0v ⊢
  have hBb : B ≤ b0 := by omega
  clear hb0
  generalize w.alloc (xo ⟨1, nm, [], lo, hi⟩ (.slice pu nw cu) (.slice p m c)) = W0 at *
  have hBW : B ≤ W0.heap.size := by have := X0.out.1; omega
  obtain ⟨_, y0, y1, y2, y3, y4, y5⟩ := X0.out
  simp only at y0 y1 y3 y4
  go_wp2_with fail
  refine (cN.out W0).mono ?_; rintro e w1 ⟨rfl, hB1⟩
  have hal := alloc_at w1 (.cells (flat4 (tksOf [nmT wTrue])).toArray 71)
  have Oa := Lib.hid ((O0.out.below hB1).below hal)
  have Ra := Lib.hid ((R0.out.keep hB1).keep hal)
  have hBa : B ≤ (w1.alloc (.cells (flat4 (tksOf [nmT wTrue])).toArray 71)).heap.size := by have := Oa.out.size; omega
  have Ma := Lib.hid (lit_toks w1 [nmT wTrue] w1.heap.size rfl 1 rfl)
  clear hB1 hal y0 y1 y2 y3 y4 y5
  simp only [tkv, nmT]
  go_wp2_with (at_builtin; refine wpList_app_toks rfl (.tmp 12) (.tmp 14) rfl B v L rfl Ra.out _ (tksOf [nmT wTrue]) rfl Ma.out (by rw [tksOf_len]; exact Nat.zero_lt_succ _) (by rw [tksOf_len]; simp only [List.length_cons, List.length_nil]; omega) hBa ?_; intro v3 w3 hX3 hO3; refine Hid.out ?_)
  refine Lib.hid ?_
  have hf := Lib.hid (show ToksO B v (L ++ tksOf [nmT wTrue]) w (.returned v3) w3 from ⟨v3, rfl, hX3, Oa.out.trans hO3⟩)
  clear hX3 hO3 Oa Ra Ma
  go_wp2_with fail
  go_ret
  exact hf.out
set_option maxHeartbeats 4000000 in
theorem rt_2 (nm : List UInt8) (pu : Option Addr) (nw cu : Nat) (lo hi : Int) (p : Option Addr) (m c : Nat) (w : World) (B : Nat) (v : Value) (L : List Tk) (hR : TRow B w v L) (hl : L.length ≤ 100000) (hB : B ≤ w.heap.size) : Calls Tryz.prog 50 #[v, xq 2 nm (.slice pu nw cu) lo hi (.slice p m c)] w (ToksO B v (L ++ tksOf [nmT wFalse]) w) := by
  have al := alloc_at w (xo ⟨2, nm, [], lo, hi⟩ (.slice pu nw cu) (.slice p m c))
  have R0 := Lib.hid (hR.keep al)
  have O0 := Lib.hid (Own.of_below v al)
  have X0 := Lib.hid (XAt.new w ⟨2, nm, [], lo, hi⟩ (.slice pu nw cu) (.slice p m c))
  have hb0v : v.ownBlock ≠ some w.heap.size := fun e => by have := (hR.block _ e).2; omega
  have cN := Lib.hid (fun W => (show Calls Tryz.prog 74 #[.string { data := #[102, 97, 108, 115, 101] }] W (TokR (nmT wFalse) W) from rword_any wFalse W))
  go_enter Tryz.func50, Tryz.ntmps50
  go_upto_region 1 with fail
  obtain ⟨b0, hb0⟩ : ∃ b, w.heap.size = b := ⟨_, rfl⟩
  rw [hb0] at X0 hb0v ⊢
  have hBb : B ≤ b0 := by omega
  clear hb0
  generalize w.alloc (xo ⟨2, nm, [], lo, hi⟩ (.slice pu nw cu) (.slice p m c)) = W0 at *
  have hBW : B ≤ W0.heap.size := by have := X0.out.1; omega
  obtain ⟨_, y0, y1, y2, y3, y4, y5⟩ := X0.out
  simp only at y0 y1 y3 y4
  go_wp2_with fail
  refine (cN.out W0).mono ?_; rintro e w1 ⟨rfl, hB1⟩
  have hal := alloc_at w1 (.cells (flat4 (tksOf [nmT wFalse])).toArray 71)
  have Oa := Lib.hid ((O0.out.below hB1).below hal)
  have Ra := Lib.hid ((R0.out.keep hB1).keep hal)
  have hBa : B ≤ (w1.alloc (.cells (flat4 (tksOf [nmT wFalse])).toArray 71)).heap.size := by have := Oa.out.size; omega
  have Ma := Lib.hid (lit_toks w1 [nmT wFalse] w1.heap.size rfl 1 rfl)
  clear hB1 hal y0 y1 y2 y3 y4 y5
  simp only [tkv, nmT]
  go_wp2_with (at_builtin; refine wpList_app_toks rfl (.tmp 18) (.tmp 20) rfl B v L rfl Ra.out _ (tksOf [nmT wFalse]) rfl Ma.out (by rw [tksOf_len]; exact Nat.zero_lt_succ _) (by rw [tksOf_len]; simp only [List.length_cons, List.length_nil]; omega) hBa ?_; intro v3 w3 hX3 hO3; refine Hid.out ?_)
  refine Lib.hid ?_
  have hf := Lib.hid (show ToksO B v (L ++ tksOf [nmT wFalse]) w (.returned v3) w3 from ⟨v3, rfl, hX3, Oa.out.trans hO3⟩)
  clear hX3 hO3 Oa Ra Ma
  go_wp2_with fail
  go_ret
  exact hf.out
set_option maxHeartbeats 4000000 in
theorem rt_3 (nm : List UInt8) (pu : Option Addr) (nw cu : Nat) (lo hi : Int) (p : Option Addr) (m c : Nat) (w : World) (B : Nat) (v : Value) (L : List Tk) (hR : TRow B w v L) (hl : L.length ≤ 100000) (hB : B ≤ w.heap.size) : Calls Tryz.prog 50 #[v, xq 3 nm (.slice pu nw cu) lo hi (.slice p m c)] w (ToksO B v (L ++ tksOf [nmT nm]) w) := by
  have al := alloc_at w (xo ⟨3, nm, [], lo, hi⟩ (.slice pu nw cu) (.slice p m c))
  have R0 := Lib.hid (hR.keep al)
  have O0 := Lib.hid (Own.of_below v al)
  have X0 := Lib.hid (XAt.new w ⟨3, nm, [], lo, hi⟩ (.slice pu nw cu) (.slice p m c))
  have hb0v : v.ownBlock ≠ some w.heap.size := fun e => by have := (hR.block _ e).2; omega
  have cN := Lib.hid (fun W => rword_any nm W)
  go_enter Tryz.func50, Tryz.ntmps50
  go_upto_region 1 with fail
  obtain ⟨b0, hb0⟩ : ∃ b, w.heap.size = b := ⟨_, rfl⟩
  rw [hb0] at X0 hb0v ⊢
  have hBb : B ≤ b0 := by omega
  clear hb0
  generalize w.alloc (xo ⟨3, nm, [], lo, hi⟩ (.slice pu nw cu) (.slice p m c)) = W0 at *
  have hBW : B ≤ W0.heap.size := by have := X0.out.1; omega
  obtain ⟨_, y0, y1, y2, y3, y4, y5⟩ := X0.out
  simp only at y0 y1 y3 y4
  go_wp2_with fail
  refine (cN.out W0).mono ?_; rintro e w1 ⟨rfl, hB1⟩
  have hal := alloc_at w1 (.cells (flat4 (tksOf [nmT nm])).toArray 71)
  have Oa := Lib.hid ((O0.out.below hB1).below hal)
  have Ra := Lib.hid ((R0.out.keep hB1).keep hal)
  have hBa : B ≤ (w1.alloc (.cells (flat4 (tksOf [nmT nm])).toArray 71)).heap.size := by have := Oa.out.size; omega
  have Ma := Lib.hid (lit_toks w1 [nmT nm] w1.heap.size rfl 1 rfl)
  clear hB1 hal y0 y1 y2 y3 y4 y5
  simp only [tkv, nmT]
  go_wp2_with (at_builtin; refine wpList_app_toks rfl (.tmp 24) (.tmp 28) rfl B v L rfl Ra.out _ (tksOf [nmT nm]) rfl Ma.out (by rw [tksOf_len]; exact Nat.zero_lt_succ _) (by rw [tksOf_len]; simp only [List.length_cons, List.length_nil]; omega) hBa ?_; intro v3 w3 hX3 hO3; refine Hid.out ?_)
  refine Lib.hid ?_
  have hf := Lib.hid (show ToksO B v (L ++ tksOf [nmT nm]) w (.returned v3) w3 from ⟨v3, rfl, hX3, Oa.out.trans hO3⟩)
  clear hX3 hO3 Oa Ra Ma
  go_wp2_with fail
  go_ret
  exact hf.out
set_option maxRecDepth 8000 in
set_option maxHeartbeats 8000000 in
theorem rt_5 (nm : List UInt8) (pu : Option Addr) (nw cu : Nat) (lo hi : Int) (p : Option Addr) (m c : Nat) (w : World) (B : Nat) (v : Value) (L : List Tk) (hR : TRow B w v L) (hl : L.length ≤ 100000) (hB : B ≤ w.heap.size) : Calls Tryz.prog 50 #[v, xq 5 nm (.slice pu nw cu) lo hi (.slice p m c)] w (ToksO B v (L ++ tksOf [nmT nm, nmT wFrom, noT lo, nmT wTo, noT hi]) w) := by
  have al := alloc_at w (xo ⟨5, nm, [], lo, hi⟩ (.slice pu nw cu) (.slice p m c))
  have R0 := Lib.hid (hR.keep al)
  have O0 := Lib.hid (Own.of_below v al)
  have X0 := Lib.hid (XAt.new w ⟨5, nm, [], lo, hi⟩ (.slice pu nw cu) (.slice p m c))
  have hb0v : v.ownBlock ≠ some w.heap.size := fun e => by have := (hR.block _ e).2; omega
  have cN := Lib.hid (fun W => rword_any nm W)
  have cF := Lib.hid (fun W => (show Calls Tryz.prog 74 #[.string { data := #[102, 114, 111, 109] }] W (TokR (nmT wFrom) W) from rword_any wFrom W))
  have cT := Lib.hid (fun W => (show Calls Tryz.prog 74 #[.string { data := #[116, 111] }] W (TokR (nmT wTo) W) from rword_any wTo W))
  have cL := Lib.hid (fun W => rnumber_any lo W)
  have cH := Lib.hid (fun W => rnumber_any hi W)
  go_enter Tryz.func50, Tryz.ntmps50
  go_upto_region 1 with fail
  obtain ⟨b0, hb0⟩ : ∃ b, w.heap.size = b := ⟨_, rfl⟩
  rw [hb0] at X0 hb0v ⊢
  have hBb : B ≤ b0 := by omega
  clear hb0
  generalize w.alloc (xo ⟨5, nm, [], lo, hi⟩ (.slice pu nw cu) (.slice p m c)) = W0 at *
  have hBW : B ≤ W0.heap.size := by have := X0.out.1; omega
  obtain ⟨_, y0, y1, y2, y3, y4, y5⟩ := X0.out
  simp only at y0 y1 y3 y4
  have hcel := Lib.hid (fun (W : World) (hb : Below W0.heap.size W0 W) => (show W.cell? ⟨b0, 1, none⟩ = some (.string (tx nm)) ∧ W.cell? ⟨b0, 3, none⟩ = some (.int .i64 lo) ∧ W.cell? ⟨b0, 4, none⟩ = some (.int .i64 hi) from ⟨cell_same y1 (hb.block b0), cell_same y3 (hb.block b0), cell_same y4 (hb.block b0)⟩))
  have hown := Lib.hid (fun (W : World) (y : Value) (h : Own v W0 y W) => (show W.cell? ⟨b0, 1, none⟩ = some (.string (tx nm)) ∧ W.cell? ⟨b0, 3, none⟩ = some (.int .i64 lo) ∧ W.cell? ⟨b0, 4, none⟩ = some (.int .i64 hi) from by
    have h1 := X0.out.own h hb0v
    exact ⟨h1.2.2.1, h1.2.2.2.2.1, h1.2.2.2.2.2.1⟩))
  go_wp2_with fail
  go_region_held3 (fun w' => w'.cell? ⟨b0, 1, none⟩ = some (.string (tx nm)) ∧ w'.cell? ⟨b0, 3, none⟩ = some (.int .i64 lo) ∧ w'.cell? ⟨b0, 4, none⟩ = some (.int .i64 hi))
    ((first
      | exact hcel.out _ (below_drewN (Below.refl _ _) 1)
      | exact hown.out _ _ oF.out
      | exact hcel.out _ (trans_b hzE.out (alloc_at _ _))
      | exact hcel.out _ hzE.out
      | exact hcel.out _ hzD.out
      | exact hcel.out _ hzC.out
      | exact hcel.out _ hzB.out
      | exact hcel.out _ hzA.out))
    (first
      | (go_at_call 74; (with_reducible refine (cN.out _).mono ?_); rintro e wA ⟨rfl, hB1⟩; have hzA := Lib.hid (trans_b (below_drewN (Below.refl W0.heap.size W0) 1) hB1); simp only [tkv, nmT])
      | (go_at_call 74; (with_reducible refine (cF.out _).mono ?_); rintro e wB ⟨rfl, hB2⟩; have hzB := Lib.hid (trans_b hzA.out hB2); simp only [tkv, nmT])
      | (go_at_call 77; (with_reducible refine (cL.out _).mono ?_); rintro e wC ⟨rfl, hB3⟩; have hzC := Lib.hid (trans_b hzB.out hB3); simp only [tkv, noT])
      | (go_at_call 74; (with_reducible refine (cT.out _).mono ?_); rintro e wD ⟨rfl, hB4⟩; have hzD := Lib.hid (trans_b hzC.out hB4); simp only [tkv, nmT])
      | (go_at_call 77; (with_reducible refine (cH.out _).mono ?_); rintro e wE ⟨rfl, hB5⟩; have hzE := Lib.hid (trans_b hzD.out hB5); simp only [tkv, noT])
      | ((with_reducible refine step_app_toks (o := ⟨some 61, _, _, _, _, _⟩) ?_ ?_ ?_ ?_ B v L ?_ ?_ ?_ (tksOf [nmT nm, nmT wFrom, noT lo, nmT wTo, noT hi]) ?_ ?_ ?_ ?_ ?_ ?_); (rfl); (rotate_left 2); (rfl); (rfl); (exact R0.out.keep (trans_b hzE.out (alloc_at _ _))); (rotate_left 1); (rfl); (exact lit_toks wE [nmT nm, nmT wFrom, noT lo, nmT wTo, noT hi] wE.heap.size rfl 5 rfl); (rw [tksOf_len]; exact Nat.zero_lt_succ _); (rw [tksOf_len]; exact Nat.le_trans (Nat.add_le_add_right hl 5) (by decide)); (exact Nat.le_trans hBW (trans_b hzE.out (alloc_at _ _)).size); intro yF wF hYF hOF; have oF := Lib.hid (((Own.of_below v hzE.out).below (alloc_at wE _)).trans hOF); have rF := Lib.hid hYF; clear hYF hOF))
  all_goals
    have hf := Lib.hid (show ToksO B v (L ++ tksOf [nmT nm, nmT wFrom, noT lo, nmT wTo, noT hi]) w (.returned yF) wF from ⟨yF, rfl, rF.out, O0.out.trans oF.out⟩)
    clear rF oF y0 y1 y2 y3 y4 y5
    go_wp2_with fail
    go_ret
    exact hf.out
set_option maxRecDepth 8000 in
set_option maxHeartbeats 8000000 in
theorem rt_4 (nm : List UInt8) (pu : Option Addr) (nw cu : Nat) (lo hi : Int) (p : Option Addr) (m c : Nat) (w : World) (B : Nat) (v : Value) (L : List Tk) (hR : TRow B w v L) (hl : L.length ≤ 100000) (hB : B ≤ w.heap.size) (ws : List (List UInt8)) (hS : StrsS (fun b => b < B) w (.slice pu nw cu) ws) (hw : ws.length ≤ 1000) : Calls Tryz.prog 50 #[v, xq 4 nm (.slice pu nw cu) lo hi (.slice p m c)] w (ToksO B v (((L ++ tksOf [nmT nm, nmT wIn, mkT [40]]) ++ tksOf (listT true ws)) ++ tksOf [mkT [41]]) w) := by
  have al := alloc_at w (xo ⟨4, nm, ws, lo, hi⟩ (.slice pu nw cu) (.slice p m c))
  have R0 := Lib.hid (hR.keep al)
  have O0 := Lib.hid (Own.of_below v al)
  have X0 := Lib.hid (XAt.new w ⟨4, nm, ws, lo, hi⟩ (.slice pu nw cu) (.slice p m c))
  have hb0v : v.ownBlock ≠ some w.heap.size := fun e => by have := (hR.block _ e).2; omega
  have cN := Lib.hid (fun W => rword_any nm W)
  have cI := Lib.hid (fun W => (show Calls Tryz.prog 74 #[.string { data := #[105, 110] }] W (TokR (nmT wIn) W) from rword_any wIn W))
  have cO := Lib.hid (fun W => (show Calls Tryz.prog 76 #[.string { data := #[40] }] W (TokR (mkT [40]) W) from rmark_any [40] W))
  have cC := Lib.hid (fun W => (show Calls Tryz.prog 76 #[.string { data := #[41] }] W (TokR (mkT [41]) W) from rmark_any [41] W))
  have hSf := Lib.hid (fun (W : World) (y : Value) (h : Own v w y W) => hS.frame (T := fun b => b < B) fun b hb hl => ⟨hb, (h.blk (fun g hg => (hR.block g hg).1) hB).block b hb⟩)
  go_enter Tryz.func50, Tryz.ntmps50
  go_upto_region 1 with fail
  obtain ⟨b0, hb0⟩ : ∃ b, w.heap.size = b := ⟨_, rfl⟩
  rw [hb0] at X0 hb0v ⊢
  have hBb : B ≤ b0 := by omega
  clear hb0
  generalize w.alloc (xo ⟨4, nm, ws, lo, hi⟩ (.slice pu nw cu) (.slice p m c)) = W0 at *
  have hBW : B ≤ W0.heap.size := by have := X0.out.1; omega
  obtain ⟨_, y0, y1, y2, y3, y4, y5⟩ := X0.out
  simp only at y0 y1 y3 y4
  have hcel := Lib.hid (fun (W : World) (y : Value) (h : Own v W0 y W) => (show W.cell? ⟨b0, 1, none⟩ = some (.string (tx nm)) ∧ W.cell? ⟨b0, 2, none⟩ = some (.slice pu nw cu) from by
    have h1 := X0.out.own h hb0v
    exact ⟨h1.2.2.1, h1.2.2.2.1⟩))
  have cL := Lib.hid (fun (W : World) (y : Value) (h : Own v W0 y W) (hY : TRow B W y (L ++ tksOf [nmT nm, nmT wIn, mkT [40]])) => rlisted_any y (L ++ tksOf [nmT nm, nmT wIn, mkT [40]]) (.slice pu nw cu) ws W B hY (hSf.out W y (O0.out.trans h)) (by rw [List.length_append, tksOf_len]; simp only [List.length_cons, List.length_nil]; omega) (by have := h.size; omega))
  have hll := Lib.hid (show ((L ++ tksOf [nmT nm, nmT wIn, mkT [40]]) ++ tksOf (listT true ws)).length + 1 ≤ 1000000 from by
    have h1 := (list_len ws).1
    rw [List.length_append, List.length_append, tksOf_len, tksOf_len]; simp only [List.length_cons, List.length_nil]; omega)
  have o0 := Lib.hid ((Own.refl v W0).below (below_drewN (Below.refl W0.heap.size W0) 1))
  have r0 := Lib.hid (R0.out.keep (below_drewN (Below.refl W0.heap.size W0) 1))
  clear hw hS
  go_wp2_with fail
  go_region_held3 (fun w' => w'.cell? ⟨b0, 1, none⟩ = some (.string (tx nm)) ∧ w'.cell? ⟨b0, 2, none⟩ = some (.slice pu nw cu))
    ((first
      | exact hcel.out _ _ o0.out
      | exact hcel.out _ _ oH.out
      | exact hcel.out _ _ (oG.out.below (alloc_at _ _))
      | exact hcel.out _ _ oG.out
      | exact hcel.out _ _ oF.out
      | exact hcel.out _ _ oE.out
      | exact hcel.out _ _ (oC.out.below (alloc_at _ _))
      | exact hcel.out _ _ oC.out
      | exact hcel.out _ _ oB.out
      | exact hcel.out _ _ oA.out))
    (first
      | (go_at_call 74; (with_reducible refine (cN.out _).mono ?_); rintro e wA ⟨rfl, hB1⟩; have oA := Lib.hid (o0.out.below hB1); have rA := Lib.hid (r0.out.keep hB1); simp only [tkv, nmT])
      | (go_at_call 74; (with_reducible refine (cI.out _).mono ?_); rintro e wB ⟨rfl, hB2⟩; have oB := Lib.hid (oA.out.below hB2); have rB := Lib.hid (rA.out.keep hB2); simp only [tkv, nmT])
      | (go_at_call 76; (with_reducible refine (cO.out _).mono ?_); rintro e wC ⟨rfl, hB3⟩; have oC := Lib.hid (oB.out.below hB3); have rC := Lib.hid (rB.out.keep hB3); simp only [tkv, mkT])
      | ((with_reducible refine step_app_toks (o := ⟨some 39, _, _, _, _, _⟩) ?_ ?_ ?_ ?_ B v L ?_ ?_ ?_ (tksOf [nmT nm, nmT wIn, mkT [40]]) ?_ ?_ ?_ ?_ ?_ ?_); (rfl); (rotate_left 2); (rfl); (rfl); (exact rC.out.keep (alloc_at _ _)); (rotate_left 1); (rfl); (exact lit_toks wC [nmT nm, nmT wIn, mkT [40]] wC.heap.size rfl 3 rfl); (rw [tksOf_len]; exact Nat.zero_lt_succ _); (rw [tksOf_len]; exact Nat.le_trans (Nat.add_le_add_right hl 3) (by decide)); (exact Nat.le_trans hBW (oC.out.below (alloc_at _ _)).size); intro yE wE hYE hOE; have oE := Lib.hid ((oC.out.below (alloc_at wC _)).trans hOE); have rE := Lib.hid hYE; clear hYE hOE)
      | (go_at_call 75; (with_reducible refine (cL.out wE yE oE.out rE.out).mono ?_); rintro e wF ⟨yF, rfl, hYF, hOF⟩; have oF := Lib.hid (oE.out.trans hOF); have rF := Lib.hid hYF; clear hYF hOF)
      | (go_at_call 76; (with_reducible refine (cC.out _).mono ?_); rintro e wG ⟨rfl, hB4⟩; have oG := Lib.hid (oF.out.below hB4); have rG := Lib.hid (rF.out.keep hB4); simp only [tkv, mkT])
      | ((with_reducible refine step_app_toks (o := ⟨some 45, _, _, _, _, _⟩) ?_ ?_ ?_ ?_ B yF ((L ++ tksOf [nmT nm, nmT wIn, mkT [40]]) ++ tksOf (listT true ws)) ?_ ?_ ?_ (tksOf [mkT [41]]) ?_ ?_ ?_ ?_ ?_ ?_); (rfl); (rotate_left 2); (rfl); (rfl); (exact rG.out.keep (alloc_at _ _)); (rotate_left 1); (rfl); (exact lit_toks wG [mkT [41]] wG.heap.size rfl 1 rfl); (rw [tksOf_len]; exact Nat.zero_lt_succ _); (exact hll.out); (exact Nat.le_trans hBW (oG.out.below (alloc_at _ _)).size); intro yH wH hYH hOH; have oH := Lib.hid ((oG.out.below (alloc_at wG _)).trans hOH); have rH := Lib.hid hYH; clear hYH hOH))
  all_goals
    have hf := Lib.hid (show ToksO B v (((L ++ tksOf [nmT nm, nmT wIn, mkT [40]]) ++ tksOf (listT true ws)) ++ tksOf [mkT [41]]) w (.returned yH) wH from ⟨yH, rfl, rH.out, O0.out.trans oH.out⟩)
    clear rH oH y0 y1 y2 y3 y4 y5
    go_wp2_with fail
    go_ret
    exact hf.out
end Go.Proofs.YtjmipikahaoblaaGreatDoor.Syn
namespace Go.Proofs.YtjmipikahaoblaaGreatDoor.Syn
open Go.RowKit Go.Lib Go.Proofs.YtjmipikahaoblaaGreatDoor.Bas Go.Proofs.YtjmipikahaoblaaGreatDoor.Cal Go.Proofs.YtjmipikahaoblaaGreatDoor.Lx Go.Proofs.YtjmipikahaoblaaGreatDoor.Sc
set_option linter.unusedVariables false

/-- What writes the tokens of expressions of at most n nodes. -/
def RtOk (n : Nat) : Prop := ∀ (e : Ex) (x : Value) (w : World) (B : Nat) (v : Value) (L : List Tk), e.size ≤ n → ExS (fun b => b < B) w x e → exB e = true → TRow B w v L → L.length + (exT e).length ≤ 100000 → B ≤ w.heap.size →
  Calls Tryz.prog 50 #[v, x] w (ToksO B v (L ++ tksOf (exT e)) w)
set_option maxRecDepth 8000 in
set_option maxHeartbeats 16000000 in
theorem rt_6 (n : Nat) (hA : RtOk n) (F : Fo) (hn : 1 + F.sizes ≤ n + 1) (hx : nodesB F = true) (nm : List UInt8) (ws : List (List UInt8)) (pu : Option Addr) (nw cu : Nat) (lo hi : Int) (p : Option Addr) (c : Nat) (w : World) (B : Nat) (v : Value) (L : List Tk) (hR : TRow B w v L) (hF : FoS (fun b => b < B) w (.slice p F.len c) F) (hl : L.length + 1 + (argsT 6 true F).length ≤ 100000) (hB : B ≤ w.heap.size) :
    Calls Tryz.prog 50 #[v, xq 6 nm (.slice pu nw cu) lo hi (.slice p F.len c)] w (ToksO B v (L ++ tksOf ([nmT wNot] ++ argsT 6 true F)) w) := by
  have al := alloc_at w (xo ⟨6, nm, ws, lo, hi⟩ (.slice pu nw cu) (.slice p F.len c))
  have R0 := Lib.hid (hR.keep al)
  have O0 := Lib.hid (Own.of_below v al)
  have X0 := Lib.hid (XAt.new w ⟨6, nm, ws, lo, hi⟩ (.slice pu nw cu) (.slice p F.len c))
  have hb0v : v.ownBlock ≠ some w.heap.size := fun e => by have := (hR.block _ e).2; omega
  have hF0 := Lib.hid (fun (W : World) (y : Value) (h : Own v w y W) => hF.frame (T := fun b => b < B) fun b hb hl => ⟨hb, (h.blk (fun g hg => (hR.block g hg).1) hB).block b hb⟩)
  have hT := Lib.hid (fun j (hj : j < F.len) => args_sep 6 F j hj)
  have hG := Lib.hid (show ∀ j, j < F.len → (F.get j).size ≤ n from fun j hj => by have := Fo.size_get_le F j hj; omega)
  have hGx := Lib.hid (show ∀ j, j < F.len → exB (F.get j) = true from fun j hj => (Fo.nodes_get F).1 hx j hj)
  have hE := Lib.hid (show ∀ j, j = F.len → argsT 6 true (F.take j) = argsT 6 true F from fun j hj => by rw [hj, Fo.take_len])
  have hLa := Lib.hid (show ∀ j, j < F.len → (argsT 6 true (F.take (j + 1))).length ≤ (argsT 6 true F).length from fun j hj => args_mono 6 F (F.len - (j + 1)) (j + 1) (by omega))
  have hkl := kids_len 6 F
  have hlk : F.len ≤ 1000000 := by omega
  have hA' := Lib.hid (fun (j : Nat) (hj : j < F.len) (y x : Value) (W : World) (M : List Tk) (h1 : Own v w y W) (h2 : TRow B W y M) (h3 : M.length + (exT (F.get j)).length ≤ 100000) (h4 : ExS (fun b => b < B) W x (F.get j)) => hA (F.get j) x W B y M (hG.out j hj) h4 (hGx.out j hj) h2 h3 (by have := h1.size; omega))
  have hfin := Lib.hid (fun (y : Value) (W : World) (h : TRow B W y (L ++ tksOf ([nmT wNot] ++ argsT 6 true F))) (hO : Own v w y W) => (show ToksO B v (L ++ tksOf ([nmT wNot] ++ argsT 6 true F)) w (.returned y) W from ⟨y, rfl, h, hO⟩))
  have cN := Lib.hid (fun W => (show Calls Tryz.prog 74 #[.string { data := #[111, 114] }] W (TokR (nmT wOr) W) from rword_any wOr W))
  have cNot := Lib.hid (fun W => (show Calls Tryz.prog 74 #[.string { data := #[110, 111, 116] }] W (TokR (nmT wNot) W) from rword_any wNot W))
  have c40 := Lib.hid (fun W => (show Calls Tryz.prog 76 #[.string { data := #[40] }] W (TokR (mkT [40]) W) from rmark_any [40] W))
  have c41 := Lib.hid (fun W => (show Calls Tryz.prog 76 #[.string { data := #[41] }] W (TokR (mkT [41]) W) from rmark_any [41] W))
  have hwo : wordOf 6 = wOr := rfl
  rw [hwo] at hT
  clear hn hx hR hA hkl hwo
  have hPl : L.length + ([nmT wNot]).length + (argsT 6 true F).length ≤ 100000 := by rw [List.length_singleton]; omega
  generalize argsT 6 true F = AA at *
  generalize hm : F.len = m at *
  have hm' := Lib.hid hm
  clear hm
  go_enter Tryz.func50, Tryz.ntmps50
  go_upto_region 1 with fail
  obtain ⟨b0, hb0⟩ : ∃ b, w.heap.size = b := ⟨_, rfl⟩
  rw [hb0] at X0 hb0v ⊢
  have hBb : B ≤ b0 := by omega
  clear hb0
  generalize w.alloc (xo ⟨6, nm, ws, lo, hi⟩ (.slice pu nw cu) (.slice p m c)) = W0 at *
  have hBW : B ≤ W0.heap.size := by have := X0.out.1; omega
  obtain ⟨_, y0, y1, y2, y3, y4, y5⟩ := X0.out
  simp only at y0 y1 y3 y4
  go_wp2_with fail
  refine (cNot.out W0).mono ?_; rintro e w1 ⟨rfl, hB1⟩
  have hal := alloc_at w1 (.cells (flat4 (tksOf [nmT wNot])).toArray 71)
  have Oa := Lib.hid ((Own.of_below v hB1).below hal)
  have Ra := Lib.hid ((R0.out.keep hB1).keep hal)
  have hBa : B ≤ (w1.alloc (.cells (flat4 (tksOf [nmT wNot])).toArray 71)).heap.size := by have := Oa.out.size; omega
  have Ma := Lib.hid (lit_toks w1 [nmT wNot] w1.heap.size rfl 1 rfl)
  clear hB1 hal y0 y1 y2 y3 y4 y5
  simp only [tkv, nmT]
  go_wp2_with (at_builtin; refine wpList_app_toks rfl (.tmp 68) (.tmp 70) rfl B v L rfl Ra.out _ (tksOf [nmT wNot]) rfl Ma.out (by rw [tksOf_len]; exact Nat.zero_lt_succ _) (by rw [tksOf_len]; simp only [List.length_cons, List.length_nil]; omega) hBa ?_; intro v3 w3 hX3 hO3; refine Hid.out ?_)
  refine Lib.hid ?_
  have RS := Lib.hid (show TRow B w3 v3 (L ++ tksOf ([nmT wNot] ++ argsT 6 true (F.take 0))) from by show TRow B w3 v3 (L ++ tksOf ([nmT wNot] ++ [])); rw [List.append_nil]; exact hX3)
  have OS := Lib.hid (Oa.out.trans hO3)
  clear hX3 hO3 Oa Ra Ma
  go_wp2_with fail
  go_loopw [0, 6] (fun x0 x9 wr => ∃ (j : Nat), j ≤ m ∧ x9 = .int .i64 j ∧ Hid (TRow B wr x0 (L ++ tksOf ([nmT wNot] ++ argsT 6 true (F.take j)))) ∧ Hid (Own v W0 x0 wr)) (fun _ x9 _ => m - (RowKit.intOf x9).toNat)
  case atStart => exact ⟨0, Nat.zero_le _, rfl, RS, OS⟩
  case round =>
    obtain ⟨j, hj, rfl, hS, hO⟩ := hrel
    (try clear y0 y1 y2 y3 y4 y5)
    obtain ⟨_, y0, y1, y2, y3, y4, y5⟩ := X0.out.own hO.out hb0v
    simp only at y0 y1 y3 y4
    by_cases hlt : j < m
    · obtain ⟨b, o', c', hv, _, hbl, ue, ae, q0, q1, q2, q3, q4, q5, e1, e2⟩ := (hF0.out wr _ (O0.out.trans hO.out)).elem j (by rw [hm'.out]; exact hlt)
      obtain ⟨rfl, hmm, rfl⟩ := Value.slice.inj hv
      clear hmm
      have hk64 : IntKind.i64.wrap ((j : Int) + 1) = (j : Int) + 1 := IntWalk.i64_in _ (by omega)
      have hx := Lib.hid (show ExS (fun b => b < B) wr (exV (F.get j).d ue ae) (F.get j) from ⟨ue, ae, rfl, e1, e2⟩)
      obtain ⟨sep, hsep0, hsepn, hT1⟩ := hT.out j hlt
      have hLa1 := hLa.out j hlt
      have hsl : (argsT 6 true (F.take (j + 1))).length = (argsT 6 true (F.take j)).length + (sep.length + (argT 6 (F.get j).d (F.get j).kids).length) := by rw [hT1, List.length_append, List.length_append]
      have hl7 : (L ++ tksOf ([nmT wNot] ++ argsT 6 true (F.take j))).length + sep.length + (argT 6 (F.get j).d (F.get j).kids).length ≤ 100000 := by
        rw [List.length_append, tksOf_len, List.length_append]
        omega
      have hnext := Lib.hid (show ((L ++ tksOf ([nmT wNot] ++ argsT 6 true (F.take j))) ++ tksOf sep) ++ tksOf (argT 6 (F.get j).d (F.get j).kids) = L ++ tksOf ([nmT wNot] ++ argsT 6 true (F.take (j + 1))) from by
        rw [hT1]; simp only [tksOf_app, List.append_assoc])
      have hplain := Lib.hid (show parB 6 (F.get j).d.op = false → argT 6 (F.get j).d (F.get j).kids = exT (F.get j) from fun h => by unfold argT; rw [if_neg (by rw [h]; simp)]; rfl)
      have hpar := Lib.hid (show parB 6 (F.get j).d.op = true → argT 6 (F.get j).d (F.get j).kids = [mkT [40]] ++ exT (F.get j) ++ [mkT [41]] from fun h => by unfold argT; rw [if_pos h]; rfl)
      clear hT1 hsl hLa1
      obtain ⟨p1, k1, rfl, _, _⟩ := e1
      obtain ⟨p2, k2, rfl, _, _⟩ := e2
      clear hv
      have hal := alloc_at wr (xo (F.get j).d (.slice p1 (F.get j).d.ws.length k1) (.slice p2 (F.get j).kids.len k2))
      have G7 := Lib.hid (XAt.new wr (F.get j).d (.slice p1 (F.get j).d.ws.length k1) (.slice p2 (F.get j).kids.len k2))
      have O7 := Lib.hid (hO.out.below hal)
      have R7 := Lib.hid (hS.out.keep hal)
      have E7 := Lib.hid (hx.out.below hal)
      have hgv : u0.ownBlock ≠ some wr.heap.size := fun e => by have := (hS.out.block _ e).2; omega
      have hBw7 : B ≤ (wr.alloc (xo (F.get j).d (.slice p1 (F.get j).d.ws.length k1) (.slice p2 (F.get j).kids.len k2))).heap.size := by have := O7.out.size; omega
      have cS := Lib.hid (hA'.out j hlt)
      go_upto_region 21 with fail
      clear q0 q1 q2 q3 q4 q5 hS hO hal y0 y1 y2 y3 y4 y5
      obtain ⟨b7, hb7⟩ : ∃ b, wr.heap.size = b := ⟨_, rfl⟩
      rw [hb7] at G7 hgv ⊢
      clear hb7
      generalize wr.alloc (xo (F.get j).d (.slice p1 (F.get j).d.ws.length k1) (.slice p2 (F.get j).kids.len k2)) = W7 at *
      unfold exV at E7 cS
      generalize argT 6 (F.get j).d (F.get j).kids = AT at *
      generalize exT (F.get j) = ET at *
      generalize (F.get j).kids.len = nj at *
      obtain ⟨dj, hdj⟩ : ∃ d, (F.get j).d = d := ⟨_, rfl⟩
      rw [hdj] at E7 G7 hplain hpar ⊢
      clear hdj
      generalize dj.ws.length = wj at *
      generalize u0 = vr at *
      go_upto_if 85 with (fail)
      go_cut [0] (fun x0 wx => Hid (TRow B wx x0 ((L ++ tksOf ([nmT wNot] ++ argsT 6 true (F.take j))) ++ tksOf sep)) ∧ Hid (Own vr W7 x0 wx))
      case first =>
        by_cases hj0 : j = 0
        · have t2 : decide (0 < j) = false := decide_eq_false (by omega)
          have R8 := Lib.hid (show TRow B W7 vr ((L ++ tksOf ([nmT wNot] ++ argsT 6 true (F.take j))) ++ tksOf sep) from by rw [hsep0 hj0]; show TRow B W7 vr (_ ++ []); rw [List.append_nil]; exact R7.out)
          rw [t2]
          clear t2 hj0 hsep0 hsepn
          go_wp2_with fail
          go_meet
          case rel => exact ⟨R8, Lib.hid (Own.refl _ _)⟩
        · have t2 : decide (0 < j) = true := decide_eq_true (by omega)
          have hP := Lib.hid (hsepn hj0)
          have hll1 : (L ++ tksOf ([nmT wNot] ++ argsT 6 true (F.take j))).length ≤ 100000 := by omega
          rw [t2]
          clear t2 hj0 hsep0 hsepn
          go_wp2_with fail
          refine (cN.out W7).mono ?_; rintro e w1 ⟨rfl, hB1⟩
          have hal := alloc_at w1 (.cells (flat4 (tksOf [nmT wOr])).toArray 71)
          have Oa := Lib.hid ((Own.of_below vr hB1).below hal)
          have Ra := Lib.hid ((R7.out.keep hB1).keep hal)
          have hBa : B ≤ (w1.alloc (.cells (flat4 (tksOf [nmT wOr])).toArray 71)).heap.size := by have := Oa.out.size; omega
          have Ma := Lib.hid (lit_toks w1 [nmT wOr] w1.heap.size rfl 1 rfl)
          clear hB1 hal
          simp only [tkv, nmT]
          go_wp2_with (at_builtin; refine wpList_app_toks rfl (.tmp 86) (.tmp 89) rfl B vr (L ++ tksOf ([nmT wNot] ++ argsT 6 true (F.take j))) rfl Ra.out _ (tksOf [nmT wOr]) rfl Ma.out (by rw [tksOf_len]; exact Nat.zero_lt_succ _) (by rw [tksOf_len, List.length_singleton]; omega) hBa ?_; intro v3 w3 hX3 hO3; refine Hid.out ?_)
          refine Lib.hid ?_
          rw [← hP.out] at hX3
          have R8 := Lib.hid hX3
          have O8 := Lib.hid (Oa.out.trans hO3)
          clear hX3 hO3 Oa Ra Ma
          go_wp2_with fail
          go_meet
          case rel => exact ⟨R8, O8⟩
      case rest =>
        obtain ⟨R8, O8'⟩ := hcut
        have O8 := Lib.hid (O7.out.trans O8'.out)
        have hB8 : B ≤ wc.heap.size := by have := O8.out.size; omega
        obtain ⟨_, y0, y1, y2, y3, y4, y5⟩ := X0.out.own O8.out hb0v
        simp only at y0 y1 y3 y4
        have G8 := Lib.hid (G7.out.own O8'.out hgv)
        have E8 := Lib.hid (E7.out.frame (T := fun b => b < B) fun b hb _ => ⟨hb, (O8'.out.blk (fun g hg => (R7.out.block g hg).1) hBw7).block b hb⟩)
        have hl8 : ((L ++ tksOf ([nmT wNot] ++ argsT 6 true (F.take j))) ++ tksOf sep).length + AT.length ≤ 100000 := by rw [List.length_append, tksOf_len]; exact hl7
        have hg8 : u0.ownBlock ≠ some b7 := fun e => by
          rcases O8'.out.n _ e with h | h
          · exact hgv h
          · have := G7.out.1; omega
        have hEf := Lib.hid (fun (W : World) (y : Value) (h : Own u0 wc y W) => (E8.out.frame (T := fun b => b < B) fun b hb _ => ⟨hb, (h.blk (fun g hg => (R8.out.block g hg).1) hB8).block b hb⟩))
        have cS8 := Lib.hid (fun (W : World) (y : Value) (M : List Tk) (h : Own u0 wc y W) (h2 : TRow B W y M) (h3 : M.length + ET.length ≤ 100000) => cS.out y _ W M (O0.out.trans (O8.out.trans h)) h2 h3 (hEf.out W y h))
        obtain ⟨_, g0, g1, g2, g3, g4, g5⟩ := G8.out
        clear cS R7 O7 E7 G7 hsep0 hsepn hl7 hgv O8' E8 hEf
        generalize (L ++ tksOf ([nmT wNot] ++ argsT 6 true (F.take j))) ++ tksOf sep = LS at *
        generalize u0 = v8 at *
        generalize wc = W8 at *
        obtain ⟨oj, hoj⟩ : ∃ o, dj.op = o := ⟨_, rfl⟩
        rw [hoj] at g0 hplain hpar
        have hoj' := Lib.hid hoj
        have hdone := Lib.hid (fun (y : Value) (W : World) (h : TRow B W y (LS ++ tksOf AT)) (hO : Own v8 W8 y W) => (show Hid (TRow B W y (L ++ tksOf ([nmT wNot] ++ argsT 6 true (F.take (j + 1))))) ∧ Hid (Own v W0 y W) from ⟨Lib.hid (by rw [← hnext.out]; exact h), Lib.hid (O8.out.trans hO)⟩))
        have hcase : (parB 6 oj = false ∧ (oj == 8) = false ∧ ((oj == 7) = false)) ∨ (parB 6 oj = true ∧ ((oj == 8) = true ∨ ((oj == 8) = false ∧ (oj == 7) = true))) := by
          unfold parB
          by_cases h8 : oj = 8
          · right; subst h8; exact ⟨by decide, .inl rfl⟩
          · by_cases h7 : oj = 7
            · subst h7
              right; exact ⟨by decide, .inr ⟨rfl, rfl⟩⟩
            · left
              exact ⟨by simp [h8, h7], by simpa using h8, by simpa using h7⟩
        clear hoj
        rcases hcase with ⟨hpb, t8, t7⟩ | ⟨hpb, ht⟩
        · have hAT := hplain.out hpb
          have c1 := Lib.hid (cS8.out W8 v8 LS (Own.refl _ _) R8.out (by rw [← hAT]; exact hl8))
          rw [← hAT] at c1
          clear hpb hplain hpar cS8 hAT
          rw [hoj'.out] at c1
          go_wp2_with fail
          refine c1.out.mono ?_; rintro e w9 ⟨y, rfl, hY, hO9⟩
          obtain ⟨R10, O10⟩ := hdone.out _ _ hY hO9
          clear hY hO9 c1 y0 y1 y2 y3 y4 y5 g0 g1 g2 g3 g4 g5
          go_wp2_with fail
          go_roundw
          case rel => exact ⟨j + 1, by omega, by go_num, R10, O10⟩
          case measure => simp [RowKit.intOf]; omega
        · have hAT := hpar.out hpb
          have hend := Lib.hid (show ((LS ++ tksOf [mkT [40]]) ++ tksOf ET) ++ tksOf [mkT [41]] = LS ++ tksOf AT from by rw [hAT, tksOf_app, tksOf_app]; simp only [List.append_assoc])
          have hl9 : LS.length + ET.length + 2 ≤ 100000 := by rw [hAT] at hl8; simp only [List.length_append, List.length_singleton] at hl8; omega
          have c2 := Lib.hid (fun (W : World) (y : Value) (h : Own v8 W8 y W) (h2 : TRow B W y (LS ++ tksOf [mkT [40]])) => cS8.out W y _ h h2 (by rw [List.length_append, tksOf_len, List.length_singleton]; omega))
          have hX' := Lib.hid (fun (W : World) (y : Value) (h1 : Own v8 W8 y W) => (show W.cell? ⟨b7, 0, none⟩ = some (.int .i64 oj) ∧ W.cell? ⟨b7, 1, none⟩ = some (.string (tx dj.nm)) ∧ W.cell? ⟨b7, 2, none⟩ = some (.slice p1 wj k1) ∧ W.cell? ⟨b7, 3, none⟩ = some (.int .i64 dj.lo) ∧ W.cell? ⟨b7, 4, none⟩ = some (.int .i64 dj.hi) ∧ W.cell? ⟨b7, 5, none⟩ = some (.slice p2 nj k2) from by
            have h2 := (G8.out.own h1 hg8).2
            rw [hoj'.out] at h2
            exact h2))
          rw [hoj'.out] at c2
          have o0 := Lib.hid ((Own.refl v8 W8).below (below_drewN (Below.refl W8.heap.size W8) 1))
          have r0 := Lib.hid (R8.out.keep (below_drewN (Below.refl W8.heap.size W8) 1))
          have hn40 : LS.length + (tksOf [mkT [40]]).length ≤ 1000000 := by rw [tksOf_len, List.length_singleton]; omega
          have hn41 : ((LS ++ tksOf [mkT [40]]) ++ tksOf ET).length + (tksOf [mkT [41]]).length ≤ 1000000 := by simp only [List.length_append, tksOf_len, List.length_singleton]; omega
          have hn40' := Lib.hid hn40
          have hn41' := Lib.hid hn41
          clear hpb hplain hpar cS8 hAT hl8 hn40 hn41
          rcases ht with t8 | ⟨t8, t7⟩
          all_goals
            go_upto_region 24 with fail
            go_region_held3 (fun w' => w'.cell? ⟨b7, 0, none⟩ = some (.int .i64 oj) ∧ w'.cell? ⟨b7, 1, none⟩ = some (.string (tx dj.nm)) ∧ w'.cell? ⟨b7, 2, none⟩ = some (.slice p1 wj k1) ∧ w'.cell? ⟨b7, 3, none⟩ = some (.int .i64 dj.lo) ∧ w'.cell? ⟨b7, 4, none⟩ = some (.int .i64 dj.hi) ∧ w'.cell? ⟨b7, 5, none⟩ = some (.slice p2 nj k2))
              ((first
                | exact hX'.out _ _ o0.out
                | exact hX'.out _ _ oH.out
                | exact hX'.out _ _ (oG.out.below (alloc_at _ _))
                | exact hX'.out _ _ oG.out
                | exact hX'.out _ _ oF.out
                | exact hX'.out _ _ oE.out
                | exact hX'.out _ _ (oC.out.below (alloc_at _ _))
                | exact hX'.out _ _ oC.out))
              (first
                | (go_at_call 76; (with_reducible refine (c40.out _).mono ?_); rintro e wC ⟨rfl, hB3⟩; have oC := Lib.hid (o0.out.below hB3); have rC := Lib.hid (r0.out.keep hB3); simp only [tkv, mkT])
                | ((with_reducible refine step_app_toks (o := ⟨some 107, _, _, _, _, _⟩) ?_ ?_ ?_ ?_ B v8 LS ?_ ?_ ?_ (tksOf [mkT [40]]) ?_ ?_ ?_ ?_ ?_ ?_); (rfl); (rotate_left 2); (rfl); (rfl); (exact rC.out.keep (alloc_at _ _)); (rotate_left 1); (rfl); (exact lit_toks wC [mkT [40]] wC.heap.size rfl 1 rfl); (rw [tksOf_len]; exact Nat.zero_lt_succ _); (exact hn40'.out); (exact Nat.le_trans hB8 (oC.out.below (alloc_at _ _)).size); intro yE wE hYE hOE; have oE := Lib.hid ((oC.out.below (alloc_at wC _)).trans hOE); have rE := Lib.hid hYE; clear hYE hOE)
                | (go_at_call 50; (with_reducible refine (c2.out wE yE oE.out rE.out).mono ?_); rintro e wF ⟨yF, rfl, hYF, hOF⟩; have oF := Lib.hid (oE.out.trans hOF); have rF := Lib.hid hYF; clear hYF hOF)
                | (go_at_call 76; (with_reducible refine (c41.out _).mono ?_); rintro e wG ⟨rfl, hB4⟩; have oG := Lib.hid (oF.out.below hB4); have rG := Lib.hid (rF.out.keep hB4); simp only [tkv, mkT])
                | ((with_reducible refine step_app_toks (o := ⟨some 112, _, _, _, _, _⟩) ?_ ?_ ?_ ?_ B yF ((LS ++ tksOf [mkT [40]]) ++ tksOf ET) ?_ ?_ ?_ (tksOf [mkT [41]]) ?_ ?_ ?_ ?_ ?_ ?_); (rfl); (rotate_left 2); (rfl); (rfl); (exact rG.out.keep (alloc_at _ _)); (rotate_left 1); (rfl); (exact lit_toks wG [mkT [41]] wG.heap.size rfl 1 rfl); (rw [tksOf_len]; exact Nat.zero_lt_succ _); (exact hn41'.out); (exact Nat.le_trans hB8 (oG.out.below (alloc_at _ _)).size); intro yH wH hYH hOH; have oH := Lib.hid ((oG.out.below (alloc_at wG _)).trans hOH); have rH := Lib.hid hYH; clear hYH hOH))
            all_goals
              have rZ := Lib.hid (show TRow B wH yH (LS ++ tksOf AT) from by rw [← hend.out]; exact rH.out)
              obtain ⟨R10, O10⟩ := hdone.out _ _ rZ.out oH.out
              clear rZ rH oH c2 hX' o0 r0 y0 y1 y2 y3 y4 y5 g0 g1 g2 g3 g4 g5
              go_wp2_with fail
              go_roundw
              case rel => exact ⟨j + 1, by omega, by go_num, R10, O10⟩
              case measure => simp [RowKit.intOf]; omega
    · have hEk := Lib.hid (hE.out j (by omega))
      have hf := Lib.hid (hfin.out _ _ (by rw [← hEk.out]; exact hS.out) (O0.out.trans hO.out))
      go_wp2_with fail
      go_ret
      exact hf.out
set_option maxRecDepth 8000 in
set_option maxHeartbeats 16000000 in
theorem rt_7 (n : Nat) (hA : RtOk n) (F : Fo) (hn : 1 + F.sizes ≤ n + 1) (hx : nodesB F = true) (nm : List UInt8) (ws : List (List UInt8)) (pu : Option Addr) (nw cu : Nat) (lo hi : Int) (p : Option Addr) (c : Nat) (w : World) (B : Nat) (v : Value) (L : List Tk) (hR : TRow B w v L) (hF : FoS (fun b => b < B) w (.slice p F.len c) F) (hl : L.length + 0 + (argsT 7 true F).length ≤ 100000) (hB : B ≤ w.heap.size) :
    Calls Tryz.prog 50 #[v, xq 7 nm (.slice pu nw cu) lo hi (.slice p F.len c)] w (ToksO B v (L ++ tksOf (([] : List Tok) ++ argsT 7 true F)) w) := by
  have al := alloc_at w (xo ⟨7, nm, ws, lo, hi⟩ (.slice pu nw cu) (.slice p F.len c))
  have R0 := Lib.hid (hR.keep al)
  have O0 := Lib.hid (Own.of_below v al)
  have X0 := Lib.hid (XAt.new w ⟨7, nm, ws, lo, hi⟩ (.slice pu nw cu) (.slice p F.len c))
  have hb0v : v.ownBlock ≠ some w.heap.size := fun e => by have := (hR.block _ e).2; omega
  have hF0 := Lib.hid (fun (W : World) (y : Value) (h : Own v w y W) => hF.frame (T := fun b => b < B) fun b hb hl => ⟨hb, (h.blk (fun g hg => (hR.block g hg).1) hB).block b hb⟩)
  have hT := Lib.hid (fun j (hj : j < F.len) => args_sep 7 F j hj)
  have hG := Lib.hid (show ∀ j, j < F.len → (F.get j).size ≤ n from fun j hj => by have := Fo.size_get_le F j hj; omega)
  have hGx := Lib.hid (show ∀ j, j < F.len → exB (F.get j) = true from fun j hj => (Fo.nodes_get F).1 hx j hj)
  have hE := Lib.hid (show ∀ j, j = F.len → argsT 7 true (F.take j) = argsT 7 true F from fun j hj => by rw [hj, Fo.take_len])
  have hLa := Lib.hid (show ∀ j, j < F.len → (argsT 7 true (F.take (j + 1))).length ≤ (argsT 7 true F).length from fun j hj => args_mono 7 F (F.len - (j + 1)) (j + 1) (by omega))
  have hkl := kids_len 7 F
  have hlk : F.len ≤ 1000000 := by omega
  have hA' := Lib.hid (fun (j : Nat) (hj : j < F.len) (y x : Value) (W : World) (M : List Tk) (h1 : Own v w y W) (h2 : TRow B W y M) (h3 : M.length + (exT (F.get j)).length ≤ 100000) (h4 : ExS (fun b => b < B) W x (F.get j)) => hA (F.get j) x W B y M (hG.out j hj) h4 (hGx.out j hj) h2 h3 (by have := h1.size; omega))
  have hfin := Lib.hid (fun (y : Value) (W : World) (h : TRow B W y (L ++ tksOf (([] : List Tok) ++ argsT 7 true F))) (hO : Own v w y W) => (show ToksO B v (L ++ tksOf (([] : List Tok) ++ argsT 7 true F)) w (.returned y) W from ⟨y, rfl, h, hO⟩))
  have cN := Lib.hid (fun W => (show Calls Tryz.prog 74 #[.string { data := #[97, 110, 100] }] W (TokR (nmT wAnd) W) from rword_any wAnd W))
  have cNot := Lib.hid (fun W => (show Calls Tryz.prog 74 #[.string { data := #[110, 111, 116] }] W (TokR (nmT wNot) W) from rword_any wNot W))
  have c40 := Lib.hid (fun W => (show Calls Tryz.prog 76 #[.string { data := #[40] }] W (TokR (mkT [40]) W) from rmark_any [40] W))
  have c41 := Lib.hid (fun W => (show Calls Tryz.prog 76 #[.string { data := #[41] }] W (TokR (mkT [41]) W) from rmark_any [41] W))
  have hwo : wordOf 7 = wAnd := rfl
  rw [hwo] at hT
  clear hn hx hR hA hkl hwo
  have hPl : L.length + (([] : List Tok)).length + (argsT 7 true F).length ≤ 100000 := by rw [List.length_nil]; omega
  generalize argsT 7 true F = AA at *
  generalize hm : F.len = m at *
  have hm' := Lib.hid hm
  clear hm
  go_enter Tryz.func50, Tryz.ntmps50
  go_upto_region 1 with fail
  obtain ⟨b0, hb0⟩ : ∃ b, w.heap.size = b := ⟨_, rfl⟩
  rw [hb0] at X0 hb0v ⊢
  have hBb : B ≤ b0 := by omega
  clear hb0
  generalize w.alloc (xo ⟨7, nm, ws, lo, hi⟩ (.slice pu nw cu) (.slice p m c)) = W0 at *
  have hBW : B ≤ W0.heap.size := by have := X0.out.1; omega
  obtain ⟨_, y0, y1, y2, y3, y4, y5⟩ := X0.out
  simp only at y0 y1 y3 y4
  have RS := Lib.hid (show TRow B W0 v (L ++ tksOf (([] : List Tok) ++ argsT 7 true (F.take 0))) from by show TRow B W0 v (L ++ []); rw [List.append_nil]; exact R0.out)
  have OS := Lib.hid (Own.refl v W0)
  go_wp2_with fail
  go_loopw [0, 6] (fun x0 x9 wr => ∃ (j : Nat), j ≤ m ∧ x9 = .int .i64 j ∧ Hid (TRow B wr x0 (L ++ tksOf (([] : List Tok) ++ argsT 7 true (F.take j)))) ∧ Hid (Own v W0 x0 wr)) (fun _ x9 _ => m - (RowKit.intOf x9).toNat)
  case atStart => exact ⟨0, Nat.zero_le _, rfl, RS, OS⟩
  case round =>
    obtain ⟨j, hj, rfl, hS, hO⟩ := hrel
    (try clear y0 y1 y2 y3 y4 y5)
    obtain ⟨_, y0, y1, y2, y3, y4, y5⟩ := X0.out.own hO.out hb0v
    simp only at y0 y1 y3 y4
    by_cases hlt : j < m
    · obtain ⟨b, o', c', hv, _, hbl, ue, ae, q0, q1, q2, q3, q4, q5, e1, e2⟩ := (hF0.out wr _ (O0.out.trans hO.out)).elem j (by rw [hm'.out]; exact hlt)
      obtain ⟨rfl, hmm, rfl⟩ := Value.slice.inj hv
      clear hmm
      have hk64 : IntKind.i64.wrap ((j : Int) + 1) = (j : Int) + 1 := IntWalk.i64_in _ (by omega)
      have hx := Lib.hid (show ExS (fun b => b < B) wr (exV (F.get j).d ue ae) (F.get j) from ⟨ue, ae, rfl, e1, e2⟩)
      obtain ⟨sep, hsep0, hsepn, hT1⟩ := hT.out j hlt
      have hLa1 := hLa.out j hlt
      have hsl : (argsT 7 true (F.take (j + 1))).length = (argsT 7 true (F.take j)).length + (sep.length + (argT 7 (F.get j).d (F.get j).kids).length) := by rw [hT1, List.length_append, List.length_append]
      have hl7 : (L ++ tksOf (([] : List Tok) ++ argsT 7 true (F.take j))).length + sep.length + (argT 7 (F.get j).d (F.get j).kids).length ≤ 100000 := by
        rw [List.length_append, tksOf_len, List.length_append]
        omega
      have hnext := Lib.hid (show ((L ++ tksOf (([] : List Tok) ++ argsT 7 true (F.take j))) ++ tksOf sep) ++ tksOf (argT 7 (F.get j).d (F.get j).kids) = L ++ tksOf (([] : List Tok) ++ argsT 7 true (F.take (j + 1))) from by
        rw [hT1]; simp only [tksOf_app, List.append_assoc])
      have hplain := Lib.hid (show parB 7 (F.get j).d.op = false → argT 7 (F.get j).d (F.get j).kids = exT (F.get j) from fun h => by unfold argT; rw [if_neg (by rw [h]; simp)]; rfl)
      have hpar := Lib.hid (show parB 7 (F.get j).d.op = true → argT 7 (F.get j).d (F.get j).kids = [mkT [40]] ++ exT (F.get j) ++ [mkT [41]] from fun h => by unfold argT; rw [if_pos h]; rfl)
      clear hT1 hsl hLa1
      obtain ⟨p1, k1, rfl, _, _⟩ := e1
      obtain ⟨p2, k2, rfl, _, _⟩ := e2
      clear hv
      have hal := alloc_at wr (xo (F.get j).d (.slice p1 (F.get j).d.ws.length k1) (.slice p2 (F.get j).kids.len k2))
      have G7 := Lib.hid (XAt.new wr (F.get j).d (.slice p1 (F.get j).d.ws.length k1) (.slice p2 (F.get j).kids.len k2))
      have O7 := Lib.hid (hO.out.below hal)
      have R7 := Lib.hid (hS.out.keep hal)
      have E7 := Lib.hid (hx.out.below hal)
      have hgv : u0.ownBlock ≠ some wr.heap.size := fun e => by have := (hS.out.block _ e).2; omega
      have hBw7 : B ≤ (wr.alloc (xo (F.get j).d (.slice p1 (F.get j).d.ws.length k1) (.slice p2 (F.get j).kids.len k2))).heap.size := by have := O7.out.size; omega
      have cS := Lib.hid (hA'.out j hlt)
      go_upto_region 21 with fail
      clear q0 q1 q2 q3 q4 q5 hS hO hal y0 y1 y2 y3 y4 y5
      obtain ⟨b7, hb7⟩ : ∃ b, wr.heap.size = b := ⟨_, rfl⟩
      rw [hb7] at G7 hgv ⊢
      clear hb7
      generalize wr.alloc (xo (F.get j).d (.slice p1 (F.get j).d.ws.length k1) (.slice p2 (F.get j).kids.len k2)) = W7 at *
      unfold exV at E7 cS
      generalize argT 7 (F.get j).d (F.get j).kids = AT at *
      generalize exT (F.get j) = ET at *
      generalize (F.get j).kids.len = nj at *
      obtain ⟨dj, hdj⟩ : ∃ d, (F.get j).d = d := ⟨_, rfl⟩
      rw [hdj] at E7 G7 hplain hpar ⊢
      clear hdj
      generalize dj.ws.length = wj at *
      generalize u0 = vr at *
      go_upto_if 85 with (fail)
      go_cut [0] (fun x0 wx => Hid (TRow B wx x0 ((L ++ tksOf (([] : List Tok) ++ argsT 7 true (F.take j))) ++ tksOf sep)) ∧ Hid (Own vr W7 x0 wx))
      case first =>
        by_cases hj0 : j = 0
        · have t2 : decide (0 < j) = false := decide_eq_false (by omega)
          have R8 := Lib.hid (show TRow B W7 vr ((L ++ tksOf (([] : List Tok) ++ argsT 7 true (F.take j))) ++ tksOf sep) from by rw [hsep0 hj0]; show TRow B W7 vr (_ ++ []); rw [List.append_nil]; exact R7.out)
          rw [t2]
          clear t2 hj0 hsep0 hsepn
          go_wp2_with fail
          go_meet
          case rel => exact ⟨R8, Lib.hid (Own.refl _ _)⟩
        · have t2 : decide (0 < j) = true := decide_eq_true (by omega)
          have hP := Lib.hid (hsepn hj0)
          have hll1 : (L ++ tksOf (([] : List Tok) ++ argsT 7 true (F.take j))).length ≤ 100000 := by omega
          rw [t2]
          clear t2 hj0 hsep0 hsepn
          go_wp2_with fail
          refine (cN.out W7).mono ?_; rintro e w1 ⟨rfl, hB1⟩
          have hal := alloc_at w1 (.cells (flat4 (tksOf [nmT wAnd])).toArray 71)
          have Oa := Lib.hid ((Own.of_below vr hB1).below hal)
          have Ra := Lib.hid ((R7.out.keep hB1).keep hal)
          have hBa : B ≤ (w1.alloc (.cells (flat4 (tksOf [nmT wAnd])).toArray 71)).heap.size := by have := Oa.out.size; omega
          have Ma := Lib.hid (lit_toks w1 [nmT wAnd] w1.heap.size rfl 1 rfl)
          clear hB1 hal
          simp only [tkv, nmT]
          go_wp2_with (at_builtin; refine wpList_app_toks rfl (.tmp 86) (.tmp 89) rfl B vr (L ++ tksOf (([] : List Tok) ++ argsT 7 true (F.take j))) rfl Ra.out _ (tksOf [nmT wAnd]) rfl Ma.out (by rw [tksOf_len]; exact Nat.zero_lt_succ _) (by rw [tksOf_len, List.length_singleton]; omega) hBa ?_; intro v3 w3 hX3 hO3; refine Hid.out ?_)
          refine Lib.hid ?_
          rw [← hP.out] at hX3
          have R8 := Lib.hid hX3
          have O8 := Lib.hid (Oa.out.trans hO3)
          clear hX3 hO3 Oa Ra Ma
          go_wp2_with fail
          go_meet
          case rel => exact ⟨R8, O8⟩
      case rest =>
        obtain ⟨R8, O8'⟩ := hcut
        have O8 := Lib.hid (O7.out.trans O8'.out)
        have hB8 : B ≤ wc.heap.size := by have := O8.out.size; omega
        obtain ⟨_, y0, y1, y2, y3, y4, y5⟩ := X0.out.own O8.out hb0v
        simp only at y0 y1 y3 y4
        have G8 := Lib.hid (G7.out.own O8'.out hgv)
        have E8 := Lib.hid (E7.out.frame (T := fun b => b < B) fun b hb _ => ⟨hb, (O8'.out.blk (fun g hg => (R7.out.block g hg).1) hBw7).block b hb⟩)
        have hl8 : ((L ++ tksOf (([] : List Tok) ++ argsT 7 true (F.take j))) ++ tksOf sep).length + AT.length ≤ 100000 := by rw [List.length_append, tksOf_len]; exact hl7
        have hg8 : u0.ownBlock ≠ some b7 := fun e => by
          rcases O8'.out.n _ e with h | h
          · exact hgv h
          · have := G7.out.1; omega
        have hEf := Lib.hid (fun (W : World) (y : Value) (h : Own u0 wc y W) => (E8.out.frame (T := fun b => b < B) fun b hb _ => ⟨hb, (h.blk (fun g hg => (R8.out.block g hg).1) hB8).block b hb⟩))
        have cS8 := Lib.hid (fun (W : World) (y : Value) (M : List Tk) (h : Own u0 wc y W) (h2 : TRow B W y M) (h3 : M.length + ET.length ≤ 100000) => cS.out y _ W M (O0.out.trans (O8.out.trans h)) h2 h3 (hEf.out W y h))
        obtain ⟨_, g0, g1, g2, g3, g4, g5⟩ := G8.out
        clear cS R7 O7 E7 G7 hsep0 hsepn hl7 hgv O8' E8 hEf
        generalize (L ++ tksOf (([] : List Tok) ++ argsT 7 true (F.take j))) ++ tksOf sep = LS at *
        generalize u0 = v8 at *
        generalize wc = W8 at *
        obtain ⟨oj, hoj⟩ : ∃ o, dj.op = o := ⟨_, rfl⟩
        rw [hoj] at g0 hplain hpar
        have hoj' := Lib.hid hoj
        have hdone := Lib.hid (fun (y : Value) (W : World) (h : TRow B W y (LS ++ tksOf AT)) (hO : Own v8 W8 y W) => (show Hid (TRow B W y (L ++ tksOf (([] : List Tok) ++ argsT 7 true (F.take (j + 1))))) ∧ Hid (Own v W0 y W) from ⟨Lib.hid (by rw [← hnext.out]; exact h), Lib.hid (O8.out.trans hO)⟩))
        have hcase : (parB 7 oj = false ∧ (oj == 8) = false ∧ ((oj == 7) = false)) ∨ (parB 7 oj = true ∧ ((oj == 8) = true ∨ ((oj == 8) = false ∧ (oj == 7) = true))) := by
          unfold parB
          by_cases h8 : oj = 8
          · right; subst h8; exact ⟨by decide, .inl rfl⟩
          · by_cases h7 : oj = 7
            · subst h7
              right; exact ⟨by decide, .inr ⟨rfl, rfl⟩⟩
            · left
              exact ⟨by simp [h8, h7], by simpa using h8, by simpa using h7⟩
        clear hoj
        rcases hcase with ⟨hpb, t8, t7⟩ | ⟨hpb, ht⟩
        · have hAT := hplain.out hpb
          have c1 := Lib.hid (cS8.out W8 v8 LS (Own.refl _ _) R8.out (by rw [← hAT]; exact hl8))
          rw [← hAT] at c1
          clear hpb hplain hpar cS8 hAT
          rw [hoj'.out] at c1
          go_wp2_with fail
          refine c1.out.mono ?_; rintro e w9 ⟨y, rfl, hY, hO9⟩
          obtain ⟨R10, O10⟩ := hdone.out _ _ hY hO9
          clear hY hO9 c1 y0 y1 y2 y3 y4 y5 g0 g1 g2 g3 g4 g5
          go_wp2_with fail
          go_roundw
          case rel => exact ⟨j + 1, by omega, by go_num, R10, O10⟩
          case measure => simp [RowKit.intOf]; omega
        · have hAT := hpar.out hpb
          have hend := Lib.hid (show ((LS ++ tksOf [mkT [40]]) ++ tksOf ET) ++ tksOf [mkT [41]] = LS ++ tksOf AT from by rw [hAT, tksOf_app, tksOf_app]; simp only [List.append_assoc])
          have hl9 : LS.length + ET.length + 2 ≤ 100000 := by rw [hAT] at hl8; simp only [List.length_append, List.length_singleton] at hl8; omega
          have c2 := Lib.hid (fun (W : World) (y : Value) (h : Own v8 W8 y W) (h2 : TRow B W y (LS ++ tksOf [mkT [40]])) => cS8.out W y _ h h2 (by rw [List.length_append, tksOf_len, List.length_singleton]; omega))
          have hX' := Lib.hid (fun (W : World) (y : Value) (h1 : Own v8 W8 y W) => (show W.cell? ⟨b7, 0, none⟩ = some (.int .i64 oj) ∧ W.cell? ⟨b7, 1, none⟩ = some (.string (tx dj.nm)) ∧ W.cell? ⟨b7, 2, none⟩ = some (.slice p1 wj k1) ∧ W.cell? ⟨b7, 3, none⟩ = some (.int .i64 dj.lo) ∧ W.cell? ⟨b7, 4, none⟩ = some (.int .i64 dj.hi) ∧ W.cell? ⟨b7, 5, none⟩ = some (.slice p2 nj k2) from by
            have h2 := (G8.out.own h1 hg8).2
            rw [hoj'.out] at h2
            exact h2))
          rw [hoj'.out] at c2
          have o0 := Lib.hid ((Own.refl v8 W8).below (below_drewN (Below.refl W8.heap.size W8) 1))
          have r0 := Lib.hid (R8.out.keep (below_drewN (Below.refl W8.heap.size W8) 1))
          have hn40 : LS.length + (tksOf [mkT [40]]).length ≤ 1000000 := by rw [tksOf_len, List.length_singleton]; omega
          have hn41 : ((LS ++ tksOf [mkT [40]]) ++ tksOf ET).length + (tksOf [mkT [41]]).length ≤ 1000000 := by simp only [List.length_append, tksOf_len, List.length_singleton]; omega
          have hn40' := Lib.hid hn40
          have hn41' := Lib.hid hn41
          clear hpb hplain hpar cS8 hAT hl8 hn40 hn41
          rcases ht with t8 | ⟨t8, t7⟩
          all_goals
            go_upto_region 24 with fail
            go_region_held3 (fun w' => w'.cell? ⟨b7, 0, none⟩ = some (.int .i64 oj) ∧ w'.cell? ⟨b7, 1, none⟩ = some (.string (tx dj.nm)) ∧ w'.cell? ⟨b7, 2, none⟩ = some (.slice p1 wj k1) ∧ w'.cell? ⟨b7, 3, none⟩ = some (.int .i64 dj.lo) ∧ w'.cell? ⟨b7, 4, none⟩ = some (.int .i64 dj.hi) ∧ w'.cell? ⟨b7, 5, none⟩ = some (.slice p2 nj k2))
              ((first
                | exact hX'.out _ _ o0.out
                | exact hX'.out _ _ oH.out
                | exact hX'.out _ _ (oG.out.below (alloc_at _ _))
                | exact hX'.out _ _ oG.out
                | exact hX'.out _ _ oF.out
                | exact hX'.out _ _ oE.out
                | exact hX'.out _ _ (oC.out.below (alloc_at _ _))
                | exact hX'.out _ _ oC.out))
              (first
                | (go_at_call 76; (with_reducible refine (c40.out _).mono ?_); rintro e wC ⟨rfl, hB3⟩; have oC := Lib.hid (o0.out.below hB3); have rC := Lib.hid (r0.out.keep hB3); simp only [tkv, mkT])
                | ((with_reducible refine step_app_toks (o := ⟨some 107, _, _, _, _, _⟩) ?_ ?_ ?_ ?_ B v8 LS ?_ ?_ ?_ (tksOf [mkT [40]]) ?_ ?_ ?_ ?_ ?_ ?_); (rfl); (rotate_left 2); (rfl); (rfl); (exact rC.out.keep (alloc_at _ _)); (rotate_left 1); (rfl); (exact lit_toks wC [mkT [40]] wC.heap.size rfl 1 rfl); (rw [tksOf_len]; exact Nat.zero_lt_succ _); (exact hn40'.out); (exact Nat.le_trans hB8 (oC.out.below (alloc_at _ _)).size); intro yE wE hYE hOE; have oE := Lib.hid ((oC.out.below (alloc_at wC _)).trans hOE); have rE := Lib.hid hYE; clear hYE hOE)
                | (go_at_call 50; (with_reducible refine (c2.out wE yE oE.out rE.out).mono ?_); rintro e wF ⟨yF, rfl, hYF, hOF⟩; have oF := Lib.hid (oE.out.trans hOF); have rF := Lib.hid hYF; clear hYF hOF)
                | (go_at_call 76; (with_reducible refine (c41.out _).mono ?_); rintro e wG ⟨rfl, hB4⟩; have oG := Lib.hid (oF.out.below hB4); have rG := Lib.hid (rF.out.keep hB4); simp only [tkv, mkT])
                | ((with_reducible refine step_app_toks (o := ⟨some 112, _, _, _, _, _⟩) ?_ ?_ ?_ ?_ B yF ((LS ++ tksOf [mkT [40]]) ++ tksOf ET) ?_ ?_ ?_ (tksOf [mkT [41]]) ?_ ?_ ?_ ?_ ?_ ?_); (rfl); (rotate_left 2); (rfl); (rfl); (exact rG.out.keep (alloc_at _ _)); (rotate_left 1); (rfl); (exact lit_toks wG [mkT [41]] wG.heap.size rfl 1 rfl); (rw [tksOf_len]; exact Nat.zero_lt_succ _); (exact hn41'.out); (exact Nat.le_trans hB8 (oG.out.below (alloc_at _ _)).size); intro yH wH hYH hOH; have oH := Lib.hid ((oG.out.below (alloc_at wG _)).trans hOH); have rH := Lib.hid hYH; clear hYH hOH))
            all_goals
              have rZ := Lib.hid (show TRow B wH yH (LS ++ tksOf AT) from by rw [← hend.out]; exact rH.out)
              obtain ⟨R10, O10⟩ := hdone.out _ _ rZ.out oH.out
              clear rZ rH oH c2 hX' o0 r0 y0 y1 y2 y3 y4 y5 g0 g1 g2 g3 g4 g5
              go_wp2_with fail
              go_roundw
              case rel => exact ⟨j + 1, by omega, by go_num, R10, O10⟩
              case measure => simp [RowKit.intOf]; omega
    · have hEk := Lib.hid (hE.out j (by omega))
      have hf := Lib.hid (hfin.out _ _ (by rw [← hEk.out]; exact hS.out) (O0.out.trans hO.out))
      go_wp2_with fail
      go_ret
      exact hf.out
set_option maxRecDepth 8000 in
set_option maxHeartbeats 16000000 in
theorem rt_8 (n : Nat) (hA : RtOk n) (F : Fo) (hn : 1 + F.sizes ≤ n + 1) (hx : nodesB F = true) (nm : List UInt8) (ws : List (List UInt8)) (pu : Option Addr) (nw cu : Nat) (lo hi : Int) (p : Option Addr) (c : Nat) (w : World) (B : Nat) (v : Value) (L : List Tk) (hR : TRow B w v L) (hF : FoS (fun b => b < B) w (.slice p F.len c) F) (hl : L.length + 0 + (argsT 8 true F).length ≤ 100000) (hB : B ≤ w.heap.size) :
    Calls Tryz.prog 50 #[v, xq 8 nm (.slice pu nw cu) lo hi (.slice p F.len c)] w (ToksO B v (L ++ tksOf (([] : List Tok) ++ argsT 8 true F)) w) := by
  have al := alloc_at w (xo ⟨8, nm, ws, lo, hi⟩ (.slice pu nw cu) (.slice p F.len c))
  have R0 := Lib.hid (hR.keep al)
  have O0 := Lib.hid (Own.of_below v al)
  have X0 := Lib.hid (XAt.new w ⟨8, nm, ws, lo, hi⟩ (.slice pu nw cu) (.slice p F.len c))
  have hb0v : v.ownBlock ≠ some w.heap.size := fun e => by have := (hR.block _ e).2; omega
  have hF0 := Lib.hid (fun (W : World) (y : Value) (h : Own v w y W) => hF.frame (T := fun b => b < B) fun b hb hl => ⟨hb, (h.blk (fun g hg => (hR.block g hg).1) hB).block b hb⟩)
  have hT := Lib.hid (fun j (hj : j < F.len) => args_sep 8 F j hj)
  have hG := Lib.hid (show ∀ j, j < F.len → (F.get j).size ≤ n from fun j hj => by have := Fo.size_get_le F j hj; omega)
  have hGx := Lib.hid (show ∀ j, j < F.len → exB (F.get j) = true from fun j hj => (Fo.nodes_get F).1 hx j hj)
  have hE := Lib.hid (show ∀ j, j = F.len → argsT 8 true (F.take j) = argsT 8 true F from fun j hj => by rw [hj, Fo.take_len])
  have hLa := Lib.hid (show ∀ j, j < F.len → (argsT 8 true (F.take (j + 1))).length ≤ (argsT 8 true F).length from fun j hj => args_mono 8 F (F.len - (j + 1)) (j + 1) (by omega))
  have hkl := kids_len 8 F
  have hlk : F.len ≤ 1000000 := by omega
  have hA' := Lib.hid (fun (j : Nat) (hj : j < F.len) (y x : Value) (W : World) (M : List Tk) (h1 : Own v w y W) (h2 : TRow B W y M) (h3 : M.length + (exT (F.get j)).length ≤ 100000) (h4 : ExS (fun b => b < B) W x (F.get j)) => hA (F.get j) x W B y M (hG.out j hj) h4 (hGx.out j hj) h2 h3 (by have := h1.size; omega))
  have hfin := Lib.hid (fun (y : Value) (W : World) (h : TRow B W y (L ++ tksOf (([] : List Tok) ++ argsT 8 true F))) (hO : Own v w y W) => (show ToksO B v (L ++ tksOf (([] : List Tok) ++ argsT 8 true F)) w (.returned y) W from ⟨y, rfl, h, hO⟩))
  have cN := Lib.hid (fun W => (show Calls Tryz.prog 74 #[.string { data := #[111, 114] }] W (TokR (nmT wOr) W) from rword_any wOr W))
  have cNot := Lib.hid (fun W => (show Calls Tryz.prog 74 #[.string { data := #[110, 111, 116] }] W (TokR (nmT wNot) W) from rword_any wNot W))
  have c40 := Lib.hid (fun W => (show Calls Tryz.prog 76 #[.string { data := #[40] }] W (TokR (mkT [40]) W) from rmark_any [40] W))
  have c41 := Lib.hid (fun W => (show Calls Tryz.prog 76 #[.string { data := #[41] }] W (TokR (mkT [41]) W) from rmark_any [41] W))
  have hwo : wordOf 8 = wOr := rfl
  rw [hwo] at hT
  clear hn hx hR hA hkl hwo
  have hPl : L.length + (([] : List Tok)).length + (argsT 8 true F).length ≤ 100000 := by rw [List.length_nil]; omega
  generalize argsT 8 true F = AA at *
  generalize hm : F.len = m at *
  have hm' := Lib.hid hm
  clear hm
  go_enter Tryz.func50, Tryz.ntmps50
  go_upto_region 1 with fail
  obtain ⟨b0, hb0⟩ : ∃ b, w.heap.size = b := ⟨_, rfl⟩
  rw [hb0] at X0 hb0v ⊢
  have hBb : B ≤ b0 := by omega
  clear hb0
  generalize w.alloc (xo ⟨8, nm, ws, lo, hi⟩ (.slice pu nw cu) (.slice p m c)) = W0 at *
  have hBW : B ≤ W0.heap.size := by have := X0.out.1; omega
  obtain ⟨_, y0, y1, y2, y3, y4, y5⟩ := X0.out
  simp only at y0 y1 y3 y4
  have RS := Lib.hid (show TRow B W0 v (L ++ tksOf (([] : List Tok) ++ argsT 8 true (F.take 0))) from by show TRow B W0 v (L ++ []); rw [List.append_nil]; exact R0.out)
  have OS := Lib.hid (Own.refl v W0)
  go_wp2_with fail
  go_loopw [0, 6] (fun x0 x9 wr => ∃ (j : Nat), j ≤ m ∧ x9 = .int .i64 j ∧ Hid (TRow B wr x0 (L ++ tksOf (([] : List Tok) ++ argsT 8 true (F.take j)))) ∧ Hid (Own v W0 x0 wr)) (fun _ x9 _ => m - (RowKit.intOf x9).toNat)
  case atStart => exact ⟨0, Nat.zero_le _, rfl, RS, OS⟩
  case round =>
    obtain ⟨j, hj, rfl, hS, hO⟩ := hrel
    (try clear y0 y1 y2 y3 y4 y5)
    obtain ⟨_, y0, y1, y2, y3, y4, y5⟩ := X0.out.own hO.out hb0v
    simp only at y0 y1 y3 y4
    by_cases hlt : j < m
    · obtain ⟨b, o', c', hv, _, hbl, ue, ae, q0, q1, q2, q3, q4, q5, e1, e2⟩ := (hF0.out wr _ (O0.out.trans hO.out)).elem j (by rw [hm'.out]; exact hlt)
      obtain ⟨rfl, hmm, rfl⟩ := Value.slice.inj hv
      clear hmm
      have hk64 : IntKind.i64.wrap ((j : Int) + 1) = (j : Int) + 1 := IntWalk.i64_in _ (by omega)
      have hx := Lib.hid (show ExS (fun b => b < B) wr (exV (F.get j).d ue ae) (F.get j) from ⟨ue, ae, rfl, e1, e2⟩)
      obtain ⟨sep, hsep0, hsepn, hT1⟩ := hT.out j hlt
      have hLa1 := hLa.out j hlt
      have hsl : (argsT 8 true (F.take (j + 1))).length = (argsT 8 true (F.take j)).length + (sep.length + (argT 8 (F.get j).d (F.get j).kids).length) := by rw [hT1, List.length_append, List.length_append]
      have hl7 : (L ++ tksOf (([] : List Tok) ++ argsT 8 true (F.take j))).length + sep.length + (argT 8 (F.get j).d (F.get j).kids).length ≤ 100000 := by
        rw [List.length_append, tksOf_len, List.length_append]
        omega
      have hnext := Lib.hid (show ((L ++ tksOf (([] : List Tok) ++ argsT 8 true (F.take j))) ++ tksOf sep) ++ tksOf (argT 8 (F.get j).d (F.get j).kids) = L ++ tksOf (([] : List Tok) ++ argsT 8 true (F.take (j + 1))) from by
        rw [hT1]; simp only [tksOf_app, List.append_assoc])
      have hplain := Lib.hid (show parB 8 (F.get j).d.op = false → argT 8 (F.get j).d (F.get j).kids = exT (F.get j) from fun h => by unfold argT; rw [if_neg (by rw [h]; simp)]; rfl)
      have hpar := Lib.hid (show parB 8 (F.get j).d.op = true → argT 8 (F.get j).d (F.get j).kids = [mkT [40]] ++ exT (F.get j) ++ [mkT [41]] from fun h => by unfold argT; rw [if_pos h]; rfl)
      clear hT1 hsl hLa1
      obtain ⟨p1, k1, rfl, _, _⟩ := e1
      obtain ⟨p2, k2, rfl, _, _⟩ := e2
      clear hv
      have hal := alloc_at wr (xo (F.get j).d (.slice p1 (F.get j).d.ws.length k1) (.slice p2 (F.get j).kids.len k2))
      have G7 := Lib.hid (XAt.new wr (F.get j).d (.slice p1 (F.get j).d.ws.length k1) (.slice p2 (F.get j).kids.len k2))
      have O7 := Lib.hid (hO.out.below hal)
      have R7 := Lib.hid (hS.out.keep hal)
      have E7 := Lib.hid (hx.out.below hal)
      have hgv : u0.ownBlock ≠ some wr.heap.size := fun e => by have := (hS.out.block _ e).2; omega
      have hBw7 : B ≤ (wr.alloc (xo (F.get j).d (.slice p1 (F.get j).d.ws.length k1) (.slice p2 (F.get j).kids.len k2))).heap.size := by have := O7.out.size; omega
      have cS := Lib.hid (hA'.out j hlt)
      go_upto_region 21 with fail
      clear q0 q1 q2 q3 q4 q5 hS hO hal y0 y1 y2 y3 y4 y5
      obtain ⟨b7, hb7⟩ : ∃ b, wr.heap.size = b := ⟨_, rfl⟩
      rw [hb7] at G7 hgv ⊢
      clear hb7
      generalize wr.alloc (xo (F.get j).d (.slice p1 (F.get j).d.ws.length k1) (.slice p2 (F.get j).kids.len k2)) = W7 at *
      unfold exV at E7 cS
      generalize argT 8 (F.get j).d (F.get j).kids = AT at *
      generalize exT (F.get j) = ET at *
      generalize (F.get j).kids.len = nj at *
      obtain ⟨dj, hdj⟩ : ∃ d, (F.get j).d = d := ⟨_, rfl⟩
      rw [hdj] at E7 G7 hplain hpar ⊢
      clear hdj
      generalize dj.ws.length = wj at *
      generalize u0 = vr at *
      go_upto_if 85 with (fail)
      go_cut [0] (fun x0 wx => Hid (TRow B wx x0 ((L ++ tksOf (([] : List Tok) ++ argsT 8 true (F.take j))) ++ tksOf sep)) ∧ Hid (Own vr W7 x0 wx))
      case first =>
        by_cases hj0 : j = 0
        · have t2 : decide (0 < j) = false := decide_eq_false (by omega)
          have R8 := Lib.hid (show TRow B W7 vr ((L ++ tksOf (([] : List Tok) ++ argsT 8 true (F.take j))) ++ tksOf sep) from by rw [hsep0 hj0]; show TRow B W7 vr (_ ++ []); rw [List.append_nil]; exact R7.out)
          rw [t2]
          clear t2 hj0 hsep0 hsepn
          go_wp2_with fail
          go_meet
          case rel => exact ⟨R8, Lib.hid (Own.refl _ _)⟩
        · have t2 : decide (0 < j) = true := decide_eq_true (by omega)
          have hP := Lib.hid (hsepn hj0)
          have hll1 : (L ++ tksOf (([] : List Tok) ++ argsT 8 true (F.take j))).length ≤ 100000 := by omega
          rw [t2]
          clear t2 hj0 hsep0 hsepn
          go_wp2_with fail
          refine (cN.out W7).mono ?_; rintro e w1 ⟨rfl, hB1⟩
          have hal := alloc_at w1 (.cells (flat4 (tksOf [nmT wOr])).toArray 71)
          have Oa := Lib.hid ((Own.of_below vr hB1).below hal)
          have Ra := Lib.hid ((R7.out.keep hB1).keep hal)
          have hBa : B ≤ (w1.alloc (.cells (flat4 (tksOf [nmT wOr])).toArray 71)).heap.size := by have := Oa.out.size; omega
          have Ma := Lib.hid (lit_toks w1 [nmT wOr] w1.heap.size rfl 1 rfl)
          clear hB1 hal
          simp only [tkv, nmT]
          go_wp2_with (at_builtin; refine wpList_app_toks rfl (.tmp 86) (.tmp 89) rfl B vr (L ++ tksOf (([] : List Tok) ++ argsT 8 true (F.take j))) rfl Ra.out _ (tksOf [nmT wOr]) rfl Ma.out (by rw [tksOf_len]; exact Nat.zero_lt_succ _) (by rw [tksOf_len, List.length_singleton]; omega) hBa ?_; intro v3 w3 hX3 hO3; refine Hid.out ?_)
          refine Lib.hid ?_
          rw [← hP.out] at hX3
          have R8 := Lib.hid hX3
          have O8 := Lib.hid (Oa.out.trans hO3)
          clear hX3 hO3 Oa Ra Ma
          go_wp2_with fail
          go_meet
          case rel => exact ⟨R8, O8⟩
      case rest =>
        obtain ⟨R8, O8'⟩ := hcut
        have O8 := Lib.hid (O7.out.trans O8'.out)
        have hB8 : B ≤ wc.heap.size := by have := O8.out.size; omega
        obtain ⟨_, y0, y1, y2, y3, y4, y5⟩ := X0.out.own O8.out hb0v
        simp only at y0 y1 y3 y4
        have G8 := Lib.hid (G7.out.own O8'.out hgv)
        have E8 := Lib.hid (E7.out.frame (T := fun b => b < B) fun b hb _ => ⟨hb, (O8'.out.blk (fun g hg => (R7.out.block g hg).1) hBw7).block b hb⟩)
        have hl8 : ((L ++ tksOf (([] : List Tok) ++ argsT 8 true (F.take j))) ++ tksOf sep).length + AT.length ≤ 100000 := by rw [List.length_append, tksOf_len]; exact hl7
        have hg8 : u0.ownBlock ≠ some b7 := fun e => by
          rcases O8'.out.n _ e with h | h
          · exact hgv h
          · have := G7.out.1; omega
        have hEf := Lib.hid (fun (W : World) (y : Value) (h : Own u0 wc y W) => (E8.out.frame (T := fun b => b < B) fun b hb _ => ⟨hb, (h.blk (fun g hg => (R8.out.block g hg).1) hB8).block b hb⟩))
        have cS8 := Lib.hid (fun (W : World) (y : Value) (M : List Tk) (h : Own u0 wc y W) (h2 : TRow B W y M) (h3 : M.length + ET.length ≤ 100000) => cS.out y _ W M (O0.out.trans (O8.out.trans h)) h2 h3 (hEf.out W y h))
        obtain ⟨_, g0, g1, g2, g3, g4, g5⟩ := G8.out
        clear cS R7 O7 E7 G7 hsep0 hsepn hl7 hgv O8' E8 hEf
        generalize (L ++ tksOf (([] : List Tok) ++ argsT 8 true (F.take j))) ++ tksOf sep = LS at *
        generalize u0 = v8 at *
        generalize wc = W8 at *
        obtain ⟨oj, hoj⟩ : ∃ o, dj.op = o := ⟨_, rfl⟩
        rw [hoj] at g0 hplain hpar
        have hoj' := Lib.hid hoj
        have hdone := Lib.hid (fun (y : Value) (W : World) (h : TRow B W y (LS ++ tksOf AT)) (hO : Own v8 W8 y W) => (show Hid (TRow B W y (L ++ tksOf (([] : List Tok) ++ argsT 8 true (F.take (j + 1))))) ∧ Hid (Own v W0 y W) from ⟨Lib.hid (by rw [← hnext.out]; exact h), Lib.hid (O8.out.trans hO)⟩))
        have hcase : (parB 8 oj = false ∧ (oj == 8) = false ∧ ((oj == 7) = true ∨ (oj == 7) = false)) ∨ (parB 8 oj = true ∧ (oj == 8) = true) := by
          unfold parB
          by_cases h8 : oj = 8
          · right; subst h8; exact ⟨by decide, rfl⟩
          · by_cases h7 : oj = 7
            · subst h7
              left; exact ⟨by decide, rfl, .inl rfl⟩
            · left
              exact ⟨by simp [h8, h7], by simpa using h8, .inr (by simpa using h7)⟩
        clear hoj
        rcases hcase with ⟨hpb, t8, t7⟩ | ⟨hpb, ht⟩
        · have hAT := hplain.out hpb
          have c1 := Lib.hid (cS8.out W8 v8 LS (Own.refl _ _) R8.out (by rw [← hAT]; exact hl8))
          rw [← hAT] at c1
          clear hpb hplain hpar cS8 hAT
          rw [hoj'.out] at c1
          rcases t7 with t7 | t7
          all_goals
            go_wp2_with fail
            refine c1.out.mono ?_; rintro e w9 ⟨y, rfl, hY, hO9⟩
            obtain ⟨R10, O10⟩ := hdone.out _ _ hY hO9
            clear hY hO9 c1 y0 y1 y2 y3 y4 y5 g0 g1 g2 g3 g4 g5
            go_wp2_with fail
            go_roundw
            case rel => exact ⟨j + 1, by omega, by go_num, R10, O10⟩
            case measure => simp [RowKit.intOf]; omega
        · have hAT := hpar.out hpb
          have hend := Lib.hid (show ((LS ++ tksOf [mkT [40]]) ++ tksOf ET) ++ tksOf [mkT [41]] = LS ++ tksOf AT from by rw [hAT, tksOf_app, tksOf_app]; simp only [List.append_assoc])
          have hl9 : LS.length + ET.length + 2 ≤ 100000 := by rw [hAT] at hl8; simp only [List.length_append, List.length_singleton] at hl8; omega
          have c2 := Lib.hid (fun (W : World) (y : Value) (h : Own v8 W8 y W) (h2 : TRow B W y (LS ++ tksOf [mkT [40]])) => cS8.out W y _ h h2 (by rw [List.length_append, tksOf_len, List.length_singleton]; omega))
          have hX' := Lib.hid (fun (W : World) (y : Value) (h1 : Own v8 W8 y W) => (show W.cell? ⟨b7, 0, none⟩ = some (.int .i64 oj) ∧ W.cell? ⟨b7, 1, none⟩ = some (.string (tx dj.nm)) ∧ W.cell? ⟨b7, 2, none⟩ = some (.slice p1 wj k1) ∧ W.cell? ⟨b7, 3, none⟩ = some (.int .i64 dj.lo) ∧ W.cell? ⟨b7, 4, none⟩ = some (.int .i64 dj.hi) ∧ W.cell? ⟨b7, 5, none⟩ = some (.slice p2 nj k2) from by
            have h2 := (G8.out.own h1 hg8).2
            rw [hoj'.out] at h2
            exact h2))
          rw [hoj'.out] at c2
          have o0 := Lib.hid ((Own.refl v8 W8).below (below_drewN (Below.refl W8.heap.size W8) 1))
          have r0 := Lib.hid (R8.out.keep (below_drewN (Below.refl W8.heap.size W8) 1))
          have hn40 : LS.length + (tksOf [mkT [40]]).length ≤ 1000000 := by rw [tksOf_len, List.length_singleton]; omega
          have hn41 : ((LS ++ tksOf [mkT [40]]) ++ tksOf ET).length + (tksOf [mkT [41]]).length ≤ 1000000 := by simp only [List.length_append, tksOf_len, List.length_singleton]; omega
          have hn40' := Lib.hid hn40
          have hn41' := Lib.hid hn41
          clear hpb hplain hpar cS8 hAT hl8 hn40 hn41
          have t8 := ht
          all_goals
            go_upto_region 24 with fail
            go_region_held3 (fun w' => w'.cell? ⟨b7, 0, none⟩ = some (.int .i64 oj) ∧ w'.cell? ⟨b7, 1, none⟩ = some (.string (tx dj.nm)) ∧ w'.cell? ⟨b7, 2, none⟩ = some (.slice p1 wj k1) ∧ w'.cell? ⟨b7, 3, none⟩ = some (.int .i64 dj.lo) ∧ w'.cell? ⟨b7, 4, none⟩ = some (.int .i64 dj.hi) ∧ w'.cell? ⟨b7, 5, none⟩ = some (.slice p2 nj k2))
              ((first
                | exact hX'.out _ _ o0.out
                | exact hX'.out _ _ oH.out
                | exact hX'.out _ _ (oG.out.below (alloc_at _ _))
                | exact hX'.out _ _ oG.out
                | exact hX'.out _ _ oF.out
                | exact hX'.out _ _ oE.out
                | exact hX'.out _ _ (oC.out.below (alloc_at _ _))
                | exact hX'.out _ _ oC.out))
              (first
                | (go_at_call 76; (with_reducible refine (c40.out _).mono ?_); rintro e wC ⟨rfl, hB3⟩; have oC := Lib.hid (o0.out.below hB3); have rC := Lib.hid (r0.out.keep hB3); simp only [tkv, mkT])
                | ((with_reducible refine step_app_toks (o := ⟨some 107, _, _, _, _, _⟩) ?_ ?_ ?_ ?_ B v8 LS ?_ ?_ ?_ (tksOf [mkT [40]]) ?_ ?_ ?_ ?_ ?_ ?_); (rfl); (rotate_left 2); (rfl); (rfl); (exact rC.out.keep (alloc_at _ _)); (rotate_left 1); (rfl); (exact lit_toks wC [mkT [40]] wC.heap.size rfl 1 rfl); (rw [tksOf_len]; exact Nat.zero_lt_succ _); (exact hn40'.out); (exact Nat.le_trans hB8 (oC.out.below (alloc_at _ _)).size); intro yE wE hYE hOE; have oE := Lib.hid ((oC.out.below (alloc_at wC _)).trans hOE); have rE := Lib.hid hYE; clear hYE hOE)
                | (go_at_call 50; (with_reducible refine (c2.out wE yE oE.out rE.out).mono ?_); rintro e wF ⟨yF, rfl, hYF, hOF⟩; have oF := Lib.hid (oE.out.trans hOF); have rF := Lib.hid hYF; clear hYF hOF)
                | (go_at_call 76; (with_reducible refine (c41.out _).mono ?_); rintro e wG ⟨rfl, hB4⟩; have oG := Lib.hid (oF.out.below hB4); have rG := Lib.hid (rF.out.keep hB4); simp only [tkv, mkT])
                | ((with_reducible refine step_app_toks (o := ⟨some 112, _, _, _, _, _⟩) ?_ ?_ ?_ ?_ B yF ((LS ++ tksOf [mkT [40]]) ++ tksOf ET) ?_ ?_ ?_ (tksOf [mkT [41]]) ?_ ?_ ?_ ?_ ?_ ?_); (rfl); (rotate_left 2); (rfl); (rfl); (exact rG.out.keep (alloc_at _ _)); (rotate_left 1); (rfl); (exact lit_toks wG [mkT [41]] wG.heap.size rfl 1 rfl); (rw [tksOf_len]; exact Nat.zero_lt_succ _); (exact hn41'.out); (exact Nat.le_trans hB8 (oG.out.below (alloc_at _ _)).size); intro yH wH hYH hOH; have oH := Lib.hid ((oG.out.below (alloc_at wG _)).trans hOH); have rH := Lib.hid hYH; clear hYH hOH))
            all_goals
              have rZ := Lib.hid (show TRow B wH yH (LS ++ tksOf AT) from by rw [← hend.out]; exact rH.out)
              obtain ⟨R10, O10⟩ := hdone.out _ _ rZ.out oH.out
              clear rZ rH oH c2 hX' o0 r0 y0 y1 y2 y3 y4 y5 g0 g1 g2 g3 g4 g5
              go_wp2_with fail
              go_roundw
              case rel => exact ⟨j + 1, by omega, by go_num, R10, O10⟩
              case measure => simp [RowKit.intOf]; omega
    · have hEk := Lib.hid (hE.out j (by omega))
      have hf := Lib.hid (hfin.out _ _ (by rw [← hEk.out]; exact hS.out) (O0.out.trans hO.out))
      go_wp2_with fail
      go_ret
      exact hf.out
theorem rt_step (n : Nat) (hA : RtOk n) : RtOk (n + 1) := by
  intro e x w B v L hn hE hx hR hl hB
  obtain ⟨u, a, rfl, hu, hF⟩ := hE
  have hop := ex_op hx
  have hxb := hx
  unfold exB at hxb
  rw [Bool.and_eq_true] at hxb
  obtain ⟨hnode, hnodes⟩ := hxb
  have hsz : 1 + e.kids.sizes ≤ n + 1 := hn
  obtain ⟨pu, cu, hu', hcu, hpu⟩ := id hu
  obtain ⟨p, c, ha', hc, hp⟩ := id hF
  subst hu'
  subst ha'
  obtain ⟨k, hk⟩ : ∃ k : Nat, e.d.op = k := ⟨e.d.op.toNat, by omega⟩
  have hk1 : 1 ≤ k ∧ k ≤ 8 := by omega
  have hex : exT e = ((preA (opr k) e.d ++ preB (opr k) e.d) ++ preC (opr k) e.d) ++ argsT e.d.op true e.kids := ex_parts e.d e.kids k hk hk1 hnode
  have hws := ws_some e.d e.kids.len k hk hk1 hnode
  have hkids : k ≤ 5 → argsT e.d.op true e.kids = [] := fun h5 => by
    have h2 := hnode
    unfold nodeB at h2
    simp only [Bool.and_eq_true] at h2
    have h3 := h2.2
    rw [hk, if_neg (show ¬ ((k : Int) = 6) by omega), if_neg (show ¬ ((k : Int) = 7 ∨ (k : Int) = 8) by omega)] at h3
    have h4 := of_decide_eq_true h3
    cases hh : e.kids with
    | nil => rfl
    | cons a b c => rw [hh, Fo.len] at h4; omega
  obtain ⟨⟨op, nm, ws, lo, hi⟩, F⟩ := e
  simp only at hk
  subst hk
  unfold exV
  simp only at *
  have hL : L.length ≤ 100000 := by omega
  rcases (show k = 1 ∨ k = 2 ∨ k = 3 ∨ k = 4 ∨ k = 5 ∨ k = 6 ∨ k = 7 ∨ k = 8 by omega) with rfl | rfl | rfl | rfl | rfl | rfl | rfl | rfl
  · rw [hex, hkids (by omega)]
    exact rt_1 nm pu ws.length cu lo hi p F.len c w B v L hR hL hB
  · rw [hex, hkids (by omega)]
    exact rt_2 nm pu ws.length cu lo hi p F.len c w B v L hR hL hB
  · rw [hex, hkids (by omega)]
    exact rt_3 nm pu ws.length cu lo hi p F.len c w B v L hR hL hB
  · have h12 := hws rfl
    rw [hex, hkids (by omega)]
    have h := rt_4 nm pu ws.length cu lo hi p F.len c w B v L hR hL hB ws hu (by omega)
    have e1 : ((L ++ tksOf [nmT nm, nmT wIn, mkT [40]]) ++ tksOf (listT true ws)) ++ tksOf [mkT [41]] = L ++ tksOf (((preA (opr 4) ⟨((4 : Nat) : Int), nm, ws, lo, hi⟩ ++ preB (opr 4) ⟨((4 : Nat) : Int), nm, ws, lo, hi⟩) ++ preC (opr 4) ⟨((4 : Nat) : Int), nm, ws, lo, hi⟩) ++ []) := by
      show _ = L ++ tksOf ((([nmT nm] ++ [nmT wIn]) ++ (mkT [40] :: listT true ws ++ [mkT [41]])) ++ [])
      simp only [tksOf, List.map_append, List.map_cons, List.map_nil, List.append_assoc, List.append_nil, List.cons_append, List.nil_append]
    rw [← e1]
    exact h
  · rw [hex, hkids (by omega)]
    exact rt_5 nm pu ws.length cu lo hi p F.len c w B v L hR hL hB
  · have e1 : exT ⟨⟨((6 : Nat) : Int), nm, ws, lo, hi⟩, F⟩ = [nmT wNot] ++ argsT 6 true F := hex
    rw [e1]
    rw [e1, List.length_append, List.length_singleton] at hl
    exact rt_6 n hA F hsz hnodes nm ws pu ws.length cu lo hi p c w B v L hR hF (by omega) hB
  · have e1 : exT ⟨⟨((7 : Nat) : Int), nm, ws, lo, hi⟩, F⟩ = ([] : List Tok) ++ argsT 7 true F := hex
    rw [e1]
    rw [e1, List.length_append, List.length_nil] at hl
    exact rt_7 n hA F hsz hnodes nm ws pu ws.length cu lo hi p c w B v L hR hF (by omega) hB
  · have e1 : exT ⟨⟨((8 : Nat) : Int), nm, ws, lo, hi⟩, F⟩ = ([] : List Tok) ++ argsT 8 true F := hex
    rw [e1]
    rw [e1, List.length_append, List.length_nil] at hl
    exact rt_8 n hA F hsz hnodes nm ws pu ws.length cu lo hi p c w B v L hR hF (by omega) hB
theorem rt_all : ∀ n, RtOk n := by
  intro n
  induction n with
  | zero => intro e x w B v L h; have := size_pos e; omega
  | succ n ih => exact rt_step n ih
end Go.Proofs.YtjmipikahaoblaaGreatDoor.Syn
namespace Go.Proofs.YtjmipikahaoblaaGreatDoor.Syn
open Go.RowKit Go.Lib Go.Proofs.YtjmipikahaoblaaGreatDoor.Bas Go.Proofs.YtjmipikahaoblaaGreatDoor.Cal Go.Proofs.YtjmipikahaoblaaGreatDoor.Lx Go.Proofs.YtjmipikahaoblaaGreatDoor.Sc Go.Proofs.YtjmipikahaoblaaGreatDoor.Dk
set_option linter.unusedVariables false

theorem tok_short {t : Tk} (h : wrE t = 0) : t.t.length ≤ 100 := by
  unfold wrE at h
  split at h
  · cases h
  · split at h
    · split at h
      · cases h
      · split at h
        · split at h
          · rename_i hw
            have := (of_decide_eq_true hw).2.1
            omega
          · cases h
        · split at h
          · rename_i hm
            unfold markB at hm
            rcases of_decide_eq_true hm with h | h | h | h | h <;> rw [h] <;> decide
          · cases h
    · split at h
      · cases h
      · rename_i hn
        have : t.t = [] := Classical.byContradiction fun h => hn h
        rw [this]; simp
set_option maxRecDepth 8000 in
set_option maxHeartbeats 4000000 in
theorem pformat_any (e : Ex) (x : Value) (w : World) (hE : EnvX w) (h : ExAt w x e) (hw : ExWf e) (hl : validB e = true → (exT e).length ≤ 100000) : Calls Tryz.prog 26 #[x] w (JoinOut (fmtV e) w) := by
  obtain ⟨u, a, rfl, hu, hF⟩ := h
  have al := alloc_at w (xo e.d u a)
  have B0 := Lib.hid al
  have X0 := Lib.hid (XAt.new w e.d u a)
  have E0 := Lib.hid ((show ExAt w (exV e.d u a) e from ⟨u, a, rfl, hu, hF⟩).below al)
  have hE0 := hE.keep al
  have cV := Lib.hid (pvalid_any e (exV e.d u a) (w.alloc (xo e.d u a)) hE0.2 E0.out hw)
  have cJ := Lib.hid (fun (W : World) (y : Value) (hB : Below w.heap.size w W) (hY : TksAt W y (tksOf (exT e))) (hok : exB e = true) (hl : (exT e).length ≤ 100000) => join_any y (tksOf (exT e)) W (hE.keep hB).1 hY (fun t ht => by have := tok_short ((ex_ok e hok).tks t ht); omega) (by rw [tksOf_len]; omega))
  have hfy := Lib.hid (show validB e = true → fmtV e = joinV (tksOf (exT e)) ∧ exB e = true from fun h => ⟨by unfold fmtV; rw [if_pos h], by unfold validB at h; rw [Bool.and_eq_true] at h; exact h.2⟩)
  have hfn := Lib.hid (show validB e = false → fmtV e = ([], 5) from fun h => by unfold fmtV; rw [if_neg (by rw [h]; simp)])
  have hsz : validB e = true → e.size ≤ 300 := fun h => by
    unfold validB at h
    simp only [Bool.and_eq_true, decide_eq_true_eq] at h
    exact h.1.1
  have cW := Lib.hid (fun (W : World) (hB : Below (w.alloc (xo e.d u a)).heap.size (w.alloc (xo e.d u a)) W) (hok : exB e = true) (hl : (exT e).length ≤ 100000) => wr_all e.size e (exV e.d u a) W W.heap.size (.slice none 0 0) [] (Nat.le_refl _) ((E0.out.below hB).mono fun _ _ hl => hl) hok (trow_nil _ _) (by simpa using hl) (Nat.le_refl _) (hE0.keep hB).2 (hE0.keep hB).2.lt)
  obtain ⟨pu, cu, rfl, _, _⟩ := hu
  obtain ⟨p, c, rfl, _, _⟩ := hF
  clear al hE0 hE hw E0 hsz
  unfold exV at cV cW ⊢
  generalize fmtV e = FV at *
  generalize e.d.ws.length = nw at *
  generalize e.kids.len = nk at *
  generalize hee : e = e' at *
  generalize e'.d = d at *
  clear hee
  cases hv : validB e' with
  | false =>
    rw [hv] at cV
    have hR := hfn.out hv
    subst hR
    clear hfy hfn cW cJ hl hv
    go_enter Tryz.func26, Tryz.ntmps26
    go_upto_region 1 with fail
    obtain ⟨b0, hb0⟩ : ∃ b, w.heap.size = b := ⟨_, rfl⟩
    rw [hb0] at X0 ⊢
    clear hb0
    generalize w.alloc (xo d (.slice pu nw cu) (.slice p nk c)) = W0 at *
    obtain ⟨_, y0, y1, y2, y3, y4, y5⟩ := X0.out
    go_wp2_with fail
    refine cV.out.mono ?_; rintro e w1 ⟨rfl, hB⟩
    have hf := Lib.hid (show JoinOut ([], 5) w (.returned (.tuple #[.string (tx []), .int .i64 5])) w1 from ⟨rfl, B0.out.trans (hB.mono B0.out.size)⟩)
    clear hB cV y0 y1 y2 y3 y4 y5 X0
    go_wp2_with fail
    go_ret2
    exact hf.out
  | true =>
    rw [hv] at cV
    obtain ⟨hR, hok⟩ := hfy.out hv
    subst hR
    have hl1 := hl hv
    clear hfy hfn hl hv
    go_enter Tryz.func26, Tryz.ntmps26
    go_upto_region 1 with fail
    obtain ⟨b0, hb0⟩ : ∃ b, w.heap.size = b := ⟨_, rfl⟩
    rw [hb0] at X0 ⊢
    clear hb0
    generalize w.alloc (xo d (.slice pu nw cu) (.slice p nk c)) = W0 at *
    obtain ⟨_, y0, y1, y2, y3, y4, y5⟩ := X0.out
    go_wp2_with fail
    refine cV.out.mono ?_; rintro e w1 ⟨rfl, hB⟩
    have X1 := Lib.hid (X0.out.keep hB)
    have B1 := Lib.hid (B0.out.trans (hB.mono B0.out.size))
    have cW1 := Lib.hid (cW.out w1 hB hok hl1)
    rw [List.nil_append] at cW1
    clear hB cV cW y0 y1 y2 y3 y4 y5 X0
    obtain ⟨_, y0, y1, y2, y3, y4, y5⟩ := X1.out
    go_wp2_with fail
    refine cW1.out.mono ?_; rintro e w2 ⟨y, rfl, hY, hO⟩
    have B2 := Lib.hid (B1.out.trans (hO.nil.mono B1.out.size))
    have cJ2 := Lib.hid (cJ.out w2 y B2.out hY.at hok hl1)
    clear hY hO cW1 cJ y0 y1 y2 y3 y4 y5 X1 hok hl1
    generalize joinV (tksOf (exT e')) = JV at *
    unfold JoinOut at cJ2
    go_wp2_with fail
    refine cJ2.out.mono ?_; rintro e w3 ⟨rfl, hB⟩
    have hf := Lib.hid (show JoinOut JV w (.returned (.tuple #[.string (tx JV.1), .int .i64 JV.2])) w3 from ⟨rfl, B2.out.trans (hB.mono B2.out.size)⟩)
    clear hB cJ2
    go_wp2_with fail
    go_ret2
    exact hf.out
theorem rsame_self (x : Ex) (y z : Value) (W : World) (h1 : ExAt W y x) (h2 : ExAt W z x) (hw : ExWf x) : Calls Tryz.prog 22 #[y, z] W (BB true W) :=
  (rsame_any x.size x x y z W (Nat.le_refl _) h1 h2 hw hw).mono fun e w' h => ⟨by rw [h.1]; simp, h.2⟩
/-- What Format and Parse return for an expression that is made. -/
theorem made_text {x : Ex} (h : MadeB 5 x) : ∃ T : List UInt8, fmtV x = (T, 0) ∧ exprV T = (x, 0, 0) ∧ T.length ≤ 16384 := by
  have hv := h.valid
  have hb := made_bounds
  have h1 := h.tl
  have h2 := h.wt
  have hW := whole_ex x h.ok
  have hok := ex_ok x h.ok
  have hsz := h.sz
  have hdp := h.dp
  have hj := join_ok (exT x) hok (by omega) (by omega)
  refine ⟨txt [40] (exT x), ?_, ?_, ?_⟩
  · unfold fmtV
    rw [if_pos hv]
    exact hj.1
  · exact (read_txt (exT x) x hW hok (by omega) (by omega)).1 ⟨by omega, by omega⟩
  · have := txt_le (exT x) [40]
    omega
set_option maxRecDepth 8000 in
set_option maxHeartbeats 8000000 in
theorem back_walk (v : Value) (l : List Int) (w : World) (hT : EnvX w) (hI : IntsAt w v l) (hn : l.length ≤ 9223372036854775807) (hwl : ∀ x ∈ l, (Lit.int .i64 x).wf = true) :
    Calls Tryz.prog 6 #[v] w (BB true w) := by
  have cX := Lib.hid (expr_any v l w hI hn (fun x hx => Go.bounds_i64 (hwl x hx)))
  have cA := Lib.hid (fun W (hb : Below w.heap.size w W) => awake_any W (hT.keep hb))
  have cF := Lib.hid (fun (W : World) (hb : Below w.heap.size w W) (x : Ex) (y : Value) (h : ExAt W y x) (hM : MadeB 5 x) => pformat_any x y W (hT.keep hb) h hM.wf (fun _ => by have := hM.tl; have := made_bounds; omega))
  have cP := Lib.hid (fun (W : World) (hb : Below w.heap.size w W) (s : ByteArray) (hs : s.size ≤ 4611686018427387904) => parse_any s W (hT.keep hb) hs)
  clear hT hwl
  obtain ⟨pv, cv, rfl, _⟩ := hI
  generalize l.length = ll at *
  go_enter Tryz.func6, Tryz.ntmps6
  go_wp2_with fail
  refine cX.out.mono ?_; rintro e w1 ⟨x, q1, q2, n1, c1, n2, c2, rfl, hM, hE, hB⟩
  have hal := alloc_at w1 (xo x.d (.slice q1 n1 c1) (.slice q2 n2 c2))
  have B2 := Lib.hid (hB.trans (hal.mono hB.size))
  have K2 := Lib.hid (XAt.new w1 x.d (.slice q1 n1 c1) (.slice q2 n2 c2))
  have F2 := Lib.hid (hE.at.below hal)
  obtain ⟨T, hf1, hf2, hf3⟩ := made_text hM
  have cF2 := Lib.hid (cF.out _ B2.out x _ F2.out hM)
  rw [hf1] at cF2
  have cS2 := Lib.hid (fun (W : World) (y z : Value) (h1 : ExAt W y x) (h2 : ExAt W z x) => rsame_self x y z W h1 h2 hM.wf)
  have hp2 := Lib.hid hf2
  clear hB hE hal cX cF hM hf1 hf2
  unfold exV at cF2 ⊢
  generalize hdx : x.d = dx at *
  have hdx' := Lib.hid hdx
  clear hdx
  go_upto_region 2 with fail
  obtain ⟨b3, hb3⟩ : ∃ b, w1.heap.size = b := ⟨_, rfl⟩
  rw [hb3] at K2 ⊢
  clear hb3
  generalize w1.alloc (xo dx (.slice q1 n1 c1) (.slice q2 n2 c2)) = W2 at *
  obtain ⟨_, y0, y1, y2, y3, y4, y5⟩ := K2.out
  unfold JoinOut at cF2
  go_wp2_with fail
  refine cF2.out.mono ?_; rintro e w3 ⟨rfl, hB⟩
  have B3 := Lib.hid (B2.out.trans (hB.mono B2.out.size))
  have K3 := Lib.hid (K2.out.keep hB)
  have F3 := Lib.hid (F2.out.below hB)
  have cP3 := Lib.hid (cP.out w3 B3.out (tx T) (by rw [tx_size]; omega))
  rw [bl_tx, hp2.out] at cP3
  clear hB cF2 cP y0 y1 y2 y3 y4 y5 K2 F2 B2
  unfold ExprOut at cP3
  go_wp2_with fail
  refine cP3.out.mono ?_; rintro e w4 ⟨u, rfl, hu, hB⟩
  obtain ⟨uu, aa, rfl, hu1, hu2⟩ := id hu
  obtain ⟨p4, k4, rfl, _, _⟩ := hu1
  obtain ⟨p5, k5, rfl, _, _⟩ := hu2
  have hal := alloc_at w4 (xo x.d (.slice p4 x.d.ws.length k4) (.slice p5 x.kids.len k5))
  have B5 := Lib.hid ((B3.out.trans (hB.mono B3.out.size)).trans (hal.mono (by have := B3.out.size; have := hB.size; omega)))
  have K5 := Lib.hid ((K3.out.keep hB).keep hal)
  have F5 := Lib.hid ((F3.out.below hB).below hal)
  have G5 := Lib.hid (hu.at.below hal)
  have J5 := Lib.hid (XAt.new w4 x.d (.slice p4 x.d.ws.length k4) (.slice p5 x.kids.len k5))
  clear hB cP3 hu hal K3 F3 B3 hf3
  simp only [exV]
  unfold exV at F5 G5
  rw [hdx'.out] at *
  generalize dx.ws.length = nw at *
  generalize x.kids.len = nk at *
  go_upto_region 4 with fail
  obtain ⟨b6, hb6⟩ : ∃ b, w4.heap.size = b := ⟨_, rfl⟩
  rw [hb6] at J5 ⊢
  clear hb6
  generalize w4.alloc (xo dx (.slice p4 nw k4) (.slice p5 nk k5)) = W5 at *
  obtain ⟨_, y0, y1, y2, y3, y4, y5⟩ := K5.out
  obtain ⟨_, z0, z1, z2, z3, z4, z5⟩ := J5.out
  have cS5 := Lib.hid (cS2.out W5 _ _ F5.out G5.out)
  go_wp2_with fail
  refine cS5.out.mono ?_; rintro e w6 ⟨rfl, hB⟩
  have B6 := Lib.hid (B5.out.trans (hB.mono B5.out.size))
  have cW := Lib.hid (cA.out w6 B6.out)
  clear hB cS5 y0 y1 y2 y3 y4 y5 z0 z1 z2 z3 z4 z5 K5 J5 F5 G5 B5
  go_wp2_with fail
  refine cW.out.mono ?_; rintro e w7 ⟨rfl, hB⟩
  have hf := Lib.hid (B6.out.trans (hB.mono B6.out.size))
  clear hB cW
  go_wp2_with fail
  go_ret
  exact ⟨rfl, hf.out⟩
end Go.Proofs.YtjmipikahaoblaaGreatDoor.Syn
namespace Go.Proofs.YtjmipikahaoblaaGreatDoor.Syn
open Go.RowKit Go.Lib Go.Proofs.YtjmipikahaoblaaGreatDoor.Bas Go.Proofs.YtjmipikahaoblaaGreatDoor.Cal Go.Proofs.YtjmipikahaoblaaGreatDoor.Lx Go.Proofs.YtjmipikahaoblaaGreatDoor.Sc Go.Proofs.YtjmipikahaoblaaGreatDoor.Dk
set_option linter.unusedVariables false

set_option maxRecDepth 8000 in
set_option maxHeartbeats 4000000 in
theorem rexpr_any (e : Ex) (x : Value) (w : World) (h : ExAt w x e) (hw : ExWf e) : Calls Tryz.prog 16 #[x] w (BB (validB e) w) := by
  obtain ⟨u, a, rfl, hu, hF⟩ := h
  have al := alloc_at w (xo e.d u a)
  have B0 := Lib.hid al
  have X0 := Lib.hid (XAt.new w e.d u a)
  have E0 := Lib.hid ((show ExAt w (exV e.d u a) e from ⟨u, a, rfl, hu, hF⟩).below al)
  have cD := Lib.hid (rdeeper_any 16 e (exV e.d u a) (w.alloc (xo e.d u a)) (by omega) E0.out hw)
  have cZ := Lib.hid (fun (W : World) (hB : Below (w.alloc (xo e.d u a)).heap.size (w.alloc (xo e.d u a)) W) => rsize_any e.size e (exV e.d u a) W (Nat.le_refl _) (E0.out.below hB) hw)
  have cN := Lib.hid (fun (W : World) (hB : Below (w.alloc (xo e.d u a)).heap.size (w.alloc (xo e.d u a)) W) => rnodes_of rnode_any e.size e (exV e.d u a) W (Nat.le_refl _) (E0.out.below hB) hw)
  have h16 : ((16 : Nat) : Int) = 16 := rfl
  rw [h16] at cD
  have hv : validB e = (decide (e.size ≤ 300) && decide (e.depth ≤ 16) && exB e) := rfl
  have hm : min e.size 301 ≤ 301 := Nat.min_le_right _ _
  have hm2 : min e.size 301 ≤ 300 ↔ e.size ≤ 300 := by omega
  obtain ⟨pu, cu, rfl, _, _⟩ := hu
  obtain ⟨p, c, rfl, _, _⟩ := hF
  clear al hw E0 h16
  unfold exV at cD cZ cN ⊢
  generalize validB e = R at *
  generalize min e.size 301 = ms at *
  generalize e.size = sz at *
  generalize e.depth = dp at *
  generalize exB e = nb at *
  generalize e.d.ws.length = nw at *
  generalize e.kids.len = nk at *
  generalize e.d = d at *
  go_enter Tryz.func16, Tryz.ntmps16
  go_upto_region 1 with fail
  obtain ⟨b0, hb0⟩ : ∃ b, w.heap.size = b := ⟨_, rfl⟩
  rw [hb0] at X0 ⊢
  clear hb0
  generalize w.alloc (xo d (.slice pu nw cu) (.slice p nk c)) = W0 at *
  obtain ⟨_, y0, y1, y2, y3, y4, y5⟩ := X0.out
  by_cases h16 : 16 < dp
  · rw [decide_eq_true h16] at cD
    have hR : R = false := by rw [hv, decide_eq_false (show ¬ dp ≤ 16 by omega), Bool.and_false]; rfl
    clear hv hm hm2 h16 cZ cN
    subst hR
    go_wp2_with fail
    refine cD.out.mono ?_; rintro e w1 ⟨rfl, hB⟩
    have hf := Lib.hid (B0.out.trans (hB.mono B0.out.size))
    clear hB cD y0 y1 y2 y3 y4 y5 X0
    go_wp2_with fail
    go_ret
    exact ⟨rfl, hf.out⟩
  · rw [decide_eq_false h16] at cD
    rw [decide_eq_true (show dp ≤ 16 by omega), Bool.and_true] at hv
    clear h16
    go_wp2_with fail
    refine cD.out.mono ?_; rintro e w1 ⟨rfl, hB⟩
    have X1 := Lib.hid (X0.out.keep hB)
    have B1 := Lib.hid (B0.out.trans (hB.mono B0.out.size))
    have C1 := Lib.hid hB
    have cZ1 := Lib.hid (cZ.out w1 hB)
    clear hB cD y0 y1 y2 y3 y4 y5 X0 cZ
    obtain ⟨_, y0, y1, y2, y3, y4, y5⟩ := X1.out
    by_cases h3 : sz ≤ 300
    · rw [decide_eq_true h3, Bool.true_and] at hv
      have t1 : decide ((ms : Int) ≤ 300) = true := decide_eq_true (by omega)
      have t2 : decide (ms ≤ 300) = true := decide_eq_true (by omega)
      clear h3 hm hm2
      go_wp2_with fail
      refine cZ1.out.mono ?_; rintro e w2 ⟨rfl, hB⟩
      have X2 := Lib.hid (X1.out.keep hB)
      have B2 := Lib.hid (B1.out.trans (hB.mono B1.out.size))
      have cN2 := Lib.hid (cN.out w2 (trans_b C1.out hB))
      clear hB cZ1 y0 y1 y2 y3 y4 y5 X1 cN C1
      obtain ⟨_, y0, y1, y2, y3, y4, y5⟩ := X2.out
      go_wp2_with fail
      refine cN2.out.mono ?_; rintro e w3 ⟨rfl, hB⟩
      have hf := Lib.hid (B2.out.trans (hB.mono B2.out.size))
      clear hB cN2 y0 y1 y2 y3 y4 y5 X2
      subst hv
      go_wp2_with fail
      go_ret
      exact ⟨rfl, hf.out⟩
    · have t1 : decide ((ms : Int) ≤ 300) = false := decide_eq_false (by omega)
      have t2 : decide (ms ≤ 300) = false := decide_eq_false (by omega)
      rw [decide_eq_false h3, Bool.false_and] at hv
      clear h3 hm hm2 cN
      subst hv
      go_wp2_with fail
      refine cZ1.out.mono ?_; rintro e w2 ⟨rfl, hB⟩
      have hf := Lib.hid (B1.out.trans (hB.mono B1.out.size))
      clear hB cZ1 y0 y1 y2 y3 y4 y5 X1
      go_wp2_with fail
      go_ret
      exact ⟨rfl, hf.out⟩
set_option maxRecDepth 8000 in
set_option maxHeartbeats 4000000 in
theorem rformat_any (e : Ex) (x : Value) (w : World) (h : ExAt w x e) (hw : ExWf e) (hl : validB e = true → (exT e).length ≤ 100000) : Calls Tryz.prog 27 #[x] w (JoinOut (fmtV e) w) := by
  obtain ⟨u, a, rfl, hu, hF⟩ := h
  have al := alloc_at w (xo e.d u a)
  have B0 := Lib.hid al
  have X0 := Lib.hid (XAt.new w e.d u a)
  have E0 := Lib.hid ((show ExAt w (exV e.d u a) e from ⟨u, a, rfl, hu, hF⟩).below al)
  have cV := Lib.hid (rexpr_any e (exV e.d u a) (w.alloc (xo e.d u a)) E0.out hw)
  have cJ := Lib.hid (fun (W : World) (y : Value) (hY : TksAt W y (tksOf (exT e))) (hok : exB e = true) (hl : (exT e).length ≤ 100000) => rjoin_any y (tksOf (exT e)) W hY (fun t ht => by have := tok_short ((ex_ok e hok).tks t ht); omega) (by rw [tksOf_len]; omega))
  have hfy := Lib.hid (show validB e = true → fmtV e = joinV (tksOf (exT e)) ∧ exB e = true from fun h => ⟨by unfold fmtV; rw [if_pos h], by unfold validB at h; rw [Bool.and_eq_true] at h; exact h.2⟩)
  have hfn := Lib.hid (show validB e = false → fmtV e = ([], 5) from fun h => by unfold fmtV; rw [if_neg (by rw [h]; simp)])
  have cW := Lib.hid (fun (W : World) (hB : Below (w.alloc (xo e.d u a)).heap.size (w.alloc (xo e.d u a)) W) (hok : exB e = true) (hl : (exT e).length ≤ 100000) => rt_all e.size e (exV e.d u a) W W.heap.size (.slice none 0 0) [] (Nat.le_refl _) ((E0.out.below hB).mono fun _ _ hl => hl) hok (trow_nil _ _) (by simpa using hl) (Nat.le_refl _))
  obtain ⟨pu, cu, rfl, _, _⟩ := hu
  obtain ⟨p, c, rfl, _, _⟩ := hF
  clear al hw E0
  unfold exV at cV cW ⊢
  generalize fmtV e = FV at *
  generalize e.d.ws.length = nw at *
  generalize e.kids.len = nk at *
  generalize hee : e = e' at *
  generalize e'.d = d at *
  clear hee
  cases hv : validB e' with
  | false =>
    rw [hv] at cV
    have hR := hfn.out hv
    subst hR
    clear hfy hfn cW cJ hl hv
    go_enter Tryz.func27, Tryz.ntmps27
    go_upto_region 1 with fail
    obtain ⟨b0, hb0⟩ : ∃ b, w.heap.size = b := ⟨_, rfl⟩
    rw [hb0] at X0 ⊢
    clear hb0
    generalize w.alloc (xo d (.slice pu nw cu) (.slice p nk c)) = W0 at *
    obtain ⟨_, y0, y1, y2, y3, y4, y5⟩ := X0.out
    go_wp2_with fail
    refine cV.out.mono ?_; rintro e w1 ⟨rfl, hB⟩
    have hf := Lib.hid (show JoinOut ([], 5) w (.returned (.tuple #[.string (tx []), .int .i64 5])) w1 from ⟨rfl, B0.out.trans (hB.mono B0.out.size)⟩)
    clear hB cV y0 y1 y2 y3 y4 y5 X0
    go_wp2_with fail
    go_ret2
    exact hf.out
  | true =>
    rw [hv] at cV
    obtain ⟨hR, hok⟩ := hfy.out hv
    subst hR
    have hl1 := hl hv
    clear hfy hfn hl hv
    go_enter Tryz.func27, Tryz.ntmps27
    go_upto_region 1 with fail
    obtain ⟨b0, hb0⟩ : ∃ b, w.heap.size = b := ⟨_, rfl⟩
    rw [hb0] at X0 ⊢
    clear hb0
    generalize w.alloc (xo d (.slice pu nw cu) (.slice p nk c)) = W0 at *
    obtain ⟨_, y0, y1, y2, y3, y4, y5⟩ := X0.out
    go_wp2_with fail
    refine cV.out.mono ?_; rintro e w1 ⟨rfl, hB⟩
    have X1 := Lib.hid (X0.out.keep hB)
    have B1 := Lib.hid (B0.out.trans (hB.mono B0.out.size))
    have cW1 := Lib.hid (cW.out w1 hB hok hl1)
    rw [List.nil_append] at cW1
    clear hB cV cW y0 y1 y2 y3 y4 y5 X0
    obtain ⟨_, y0, y1, y2, y3, y4, y5⟩ := X1.out
    go_wp2_with fail
    refine cW1.out.mono ?_; rintro e w2 ⟨y, rfl, hY, hO⟩
    have B2 := Lib.hid (B1.out.trans (hO.nil.mono B1.out.size))
    have cJ2 := Lib.hid (cJ.out w2 y hY.at hok hl1)
    clear hY hO cW1 cJ y0 y1 y2 y3 y4 y5 X1 hok hl1
    generalize joinV (tksOf (exT e')) = JV at *
    unfold JoinOut at cJ2
    go_wp2_with fail
    refine cJ2.out.mono ?_; rintro e w3 ⟨rfl, hB⟩
    have hf := Lib.hid (show JoinOut JV w (.returned (.tuple #[.string (tx JV.1), .int .i64 JV.2])) w3 from ⟨rfl, B2.out.trans (hB.mono B2.out.size)⟩)
    clear hB cJ2
    go_wp2_with fail
    go_ret2
    exact hf.out
end Go.Proofs.YtjmipikahaoblaaGreatDoor.Syn
namespace Go.Proofs.YtjmipikahaoblaaGreatDoor.Syn
open Go.RowKit Go.Lib Go.Proofs.YtjmipikahaoblaaGreatDoor.Bas Go.Proofs.YtjmipikahaoblaaGreatDoor.Cal Go.Proofs.YtjmipikahaoblaaGreatDoor.Lx Go.Proofs.YtjmipikahaoblaaGreatDoor.Sc Go.Proofs.YtjmipikahaoblaaGreatDoor.Dk
set_option linter.unusedVariables false

theorem gap_close (last : List UInt8) : gap last [41] = [] := by
  unfold gap
  rw [if_neg]
  intro h
  rcases h.2 with h1 | h1
  · cases h1
  · revert h1; decide
theorem txt_par (last : List UInt8) (X R : List Tok) : txt last (parT X ++ R) = gap last [40] ++ ([40] ++ (txt [40] X ++ ([41] ++ txt [41] R))) := by
  unfold parT
  rw [show (mkT [40] :: X ++ [mkT [41]] ++ R) = mkT [40] :: (X ++ mkT [41] :: R) by simp, txt_cons, wr_mk, txt_app]
  show gap last [40] ++ ([40] ++ (txt [40] X ++ txt (lstW [40] X) (mkT [41] :: R))) = _
  rw [txt_cons, wr_mk, gap_close, List.nil_append]
theorem par_ok {X : List Tok} (h : OkT X) : OkT (parT X) := OkT.app (OkT.cons (mark_ok (by decide)) h) (OkT.cons (mark_ok (by decide)) okT_nil)
theorem par_len (X : List Tok) : (parT X).length = X.length + 2 := by unfold parT; simp
theorem par_wt (X : List Tok) : wt (parT X) = wt X + 4 := by
  unfold parT
  rw [wt_app, wt_cons, wr_mk]
  show (1 + 1 + wt X) + (1 + 1 + 0) = _
  omega
/-- The tokens of the three, and what they are read as. -/
def bindT (X Y Z : List Tok) : List Tok := parT X ++ nmT wOr :: nmT wNot :: (parT Y ++ nmT wAnd :: parT Z)
def bindE (a b c : Ex) : Ex := ⟨⟨8, [], [], 0, 0⟩, Fo.ofL [a, ⟨⟨7, [], [], 0, 0⟩, Fo.ofL [notE b, c]⟩]⟩
theorem bind_txt (X Y Z : List Tok) : txt [40] (bindT X Y Z) = ((((([40] ++ txt [40] X) ++ [41, 32, 111, 114, 32, 110, 111, 116, 32, 40]) ++ txt [40] Y) ++ [41, 32, 97, 110, 100, 32, 40]) ++ txt [40] Z) ++ [41] := by
  unfold bindT
  have hz : parT Z = parT Z ++ [] := by simp
  rw [txt_par, txt_cons, txt_cons, txt_par, txt_cons, hz, txt_par, wr_nm, wr_nm, wr_nm, txt_nil]
  have g1 : gap [40] [40] = [] := by decide
  have g2 : gap [41] wOr = [32] := by decide
  have g3 : gap wOr wNot = [32] := by decide
  have g4 : gap wNot [40] = [32] := by decide
  have g5 : gap [41] wAnd = [32] := by decide
  have g6 : gap wAnd [40] = [32] := by decide
  rw [g1, g2, g3, g4, g5, g6]
  unfold wOr wNot wAnd
  simp only [List.nil_append, List.cons_append, List.append_assoc, List.append_nil]
theorem bind_read {a b c : Ex} (ha : MadeB 5 a) (hb : MadeB 5 b) (hc : MadeB 5 c) :
    ((bindE a b c).size ≤ 300 → exprV (txt [40] (bindT (exT a) (exT b) (exT c))) = (bindE a b c, 0, 0)) ∧ (300 < (bindE a b c).size → (exprV (txt [40] (bindT (exT a) (exT b) (exT c)))).2.2 = 4) := by
  have m := made_bounds
  have a1 := ha.tl; have a2 := ha.wt; have a3 := ha.dp
  have b1 := hb.tl; have b2 := hb.wt; have b3 := hb.dp
  have c1 := hc.tl; have c2 := hc.wt; have c3 := hc.dp
  have hW := whole_binds (exT a) (exT b) (exT c) a b c (whole_ex a ha.ok) (whole_ex b hb.ok) (whole_ex c hc.ok)
  have hok : OkT (bindT (exT a) (exT b) (exT c)) := OkT.app (par_ok (ex_ok a ha.ok)) (OkT.cons (word_ok (by decide)) (OkT.cons (word_ok (by decide)) (OkT.app (par_ok (ex_ok b hb.ok)) (OkT.cons (word_ok (by decide)) (par_ok (ex_ok c hc.ok))))))
  have hl : (bindT (exT a) (exT b) (exT c)).length ≤ 4000 := by
    unfold bindT
    simp only [List.length_append, List.length_cons, par_len]
    omega
  have hw : wt (bindT (exT a) (exT b) (exT c)) ≤ 16384 := by
    unfold bindT
    rw [wt_app, wt_cons, wt_cons, wt_app, wt_cons, par_wt, par_wt, par_wt, wr_nm, wr_nm, wr_nm]
    show _ + (1 + 2 + (1 + 3 + (_ + (1 + 3 + _)))) ≤ _
    omega
  have hd : (bindE a b c).depth ≤ 16 := by
    unfold bindE Ex.depth
    simp only [Fo.ofL, Fo.deep, notE, Ex.one]
    unfold Ex.depth at a3 b3 c3
    omega
  have key := read_txt (bindT (exT a) (exT b) (exT c)) (bindE a b c) hW hok hl hw
  exact ⟨fun h => key.1 ⟨h, hd⟩, key.2⟩
theorem bind_wf {a b c : Ex} (ha : MadeB 5 a) (hb : MadeB 5 b) (hc : MadeB 5 c) : ExWf (bindE a b c) := by
  obtain ⟨a1, a2, a3⟩ := ha.wf
  obtain ⟨b1, b2, b3⟩ := hb.wf
  obtain ⟨c1, c2, c3⟩ := hc.wf
  have n0 : ∀ op : Int, -100 ≤ op → op ≤ 100 → NdWf ⟨op, [], [], 0, 0⟩ := fun op h1 h2 => ⟨⟨by simp, by simp, fun x hx => by cases hx⟩, wf_in _ (by show -9223372036854775808 ≤ op; omega) (by show op ≤ 9223372036854775807; omega), wf_in _ (by show (-9223372036854775808:Int) ≤ 0; decide) (by show (0:Int) ≤ 9223372036854775807; decide), wf_in _ (by show (-9223372036854775808:Int) ≤ 0; decide) (by show (0:Int) ≤ 9223372036854775807; decide)⟩
  have l2 : ∀ x y : Ex, (Fo.ofL [x, y]).len = 2 := fun x y => rfl
  have hN : ExWf ⟨⟨7, [], [], 0, 0⟩, Fo.ofL [notE b, c]⟩ := ⟨n0 7 (by decide) (by decide), by rw [l2]; decide, ⟨n0 6 (by decide) (by decide), by show (1 + 0 : Nat) ≤ 9223372036854775807; decide, ⟨b1, b2, b3, trivial⟩, ⟨c1, c2, c3, trivial⟩⟩⟩
  exact ⟨n0 8 (by decide) (by decide), by show (Fo.ofL _).len ≤ _; rw [l2]; decide, ⟨a1, a2, a3, ⟨hN.1, hN.2.1, hN.2.2, trivial⟩⟩⟩
/-- Expressions that were just laid, as a list. -/
theorem fo_lit {W : World} (P : List Px) (g n : Nat) (hg : W.heap.size = g) (hn : P.length = n) (hl : P.length ≤ 1000) (hP : PartsS Any W P) : FoAt (W.alloc (.cells (fl6 P).toArray 25)) (.slice (some ⟨g, 0, none⟩) n n) (Fo.ofL (P.map (·.1))) := by
  subst hg
  subst hn
  exact (erow_lit 0 W P (Nat.zero_le _) hl).fo (hP.below (alloc_at W _)) fun _ _ => trivial
theorem parts_of {W : World} {e : Ex} {q1 q2 : Option Addr} {n1 c1 n2 c2 : Nat} (h : ExAt W (exV e.d (.slice q1 n1 c1) (.slice q2 n2 c2)) e) : PartsS Any W [(e, .slice q1 n1 c1, .slice q2 n2 c2)] := by
  obtain ⟨u, a, hv, h1, h2⟩ := h
  unfold exV at hv
  have hv2 := Value.agg.inj hv
  simp only [Array.mk.injEq, List.cons.injEq, true_and, and_true] at hv2
  obtain ⟨rfl, rfl⟩ := hv2
  exact PartsS.one h1 h2
/-- The value that the statement wants, in memory. -/
theorem bind_at {W : World} {a b c : Ex} {p1 p2 q1 q2 r1 r2 : Option Addr} {n1 k1 n2 k2 m1 j1 m2 j2 l1 i1 l2 i2 : Nat} (ha : ExAt W (exV a.d (.slice p1 n1 k1) (.slice p2 n2 k2)) a) (hb : ExAt W (exV b.d (.slice q1 m1 j1) (.slice q2 m2 j2)) b) (hc : ExAt W (exV c.d (.slice r1 l1 i1) (.slice r2 l2 i2)) c) (g1 g2 g3 : Nat) (h1 : W.heap.size = g1) (h2 : g1 + 1 = g2) (h3 : g2 + 1 = g3) :
    ExAt (((W.alloc (.cells (fl6 [(b, .slice q1 m1 j1, .slice q2 m2 j2)]).toArray 25)).alloc (.cells (fl6 [(notE b, .slice none 0 0, .slice (some ⟨g1, 0, none⟩) 1 1), (c, .slice r1 l1 i1, .slice r2 l2 i2)]).toArray 25)).alloc (.cells (fl6 [(a, .slice p1 n1 k1, .slice p2 n2 k2), (⟨⟨7, [], [], 0, 0⟩, Fo.ofL [notE b, c]⟩, .slice none 0 0, .slice (some ⟨g2, 0, none⟩) 2 2)]).toArray 25))
      (exV ⟨8, [], [], 0, 0⟩ (.slice none 0 0) (.slice (some ⟨g3, 0, none⟩) 2 2)) (bindE a b c) := by
  have f1 := fo_lit [(b, .slice q1 m1 j1, .slice q2 m2 j2)] g1 1 h1 rfl (by simp) (parts_of hb)
  have al1 := alloc_at W (.cells (fl6 [(b, .slice q1 m1 j1, .slice q2 m2 j2)]).toArray 25)
  have hc1 := hc.below al1
  have ha1 := ha.below al1
  have s1 : (W.alloc (.cells (fl6 [(b, .slice q1 m1 j1, .slice q2 m2 j2)]).toArray 25)).heap.size = g2 := by rw [size_alloc1]; omega
  generalize W.alloc (.cells (fl6 [(b, .slice q1 m1 j1, .slice q2 m2 j2)]).toArray 25) = W1 at *
  have p2' : PartsS Any W1 [(notE b, .slice none 0 0, .slice (some ⟨g1, 0, none⟩) 1 1), (c, .slice r1 l1 i1, .slice r2 l2 i2)] := PartsS.append (P := [(notE b, .slice none 0 0, .slice (some ⟨g1, 0, none⟩) 1 1)]) (PartsS.one (strsS_nil _ _) f1) (parts_of hc1)
  have f2 := fo_lit [(notE b, .slice none 0 0, .slice (some ⟨g1, 0, none⟩) 1 1), (c, .slice r1 l1 i1, .slice r2 l2 i2)] g2 2 s1 rfl (by simp) p2'
  have al2 := alloc_at W1 (.cells (fl6 [(notE b, .slice none 0 0, .slice (some ⟨g1, 0, none⟩) 1 1), (c, .slice r1 l1 i1, .slice r2 l2 i2)]).toArray 25)
  have ha2 := ha1.below al2
  have s2 : (W1.alloc (.cells (fl6 [(notE b, .slice none 0 0, .slice (some ⟨g1, 0, none⟩) 1 1), (c, .slice r1 l1 i1, .slice r2 l2 i2)]).toArray 25)).heap.size = g3 := by rw [size_alloc1]; omega
  generalize W1.alloc (.cells (fl6 [(notE b, .slice none 0 0, .slice (some ⟨g1, 0, none⟩) 1 1), (c, .slice r1 l1 i1, .slice r2 l2 i2)]).toArray 25) = W2 at *
  have p3 : PartsS Any W2 [(a, .slice p1 n1 k1, .slice p2 n2 k2), (⟨⟨7, [], [], 0, 0⟩, Fo.ofL [notE b, c]⟩, .slice none 0 0, .slice (some ⟨g2, 0, none⟩) 2 2)] := PartsS.append (P := [(a, .slice p1 n1 k1, .slice p2 n2 k2)]) (parts_of ha2) (PartsS.one (strsS_nil _ _) f2)
  have f3 := fo_lit [(a, .slice p1 n1 k1, .slice p2 n2 k2), (⟨⟨7, [], [], 0, 0⟩, Fo.ofL [notE b, c]⟩, .slice none 0 0, .slice (some ⟨g2, 0, none⟩) 2 2)] g3 2 s2 rfl (by simp) p3
  exact ⟨_, _, rfl, strsS_nil _ _, f3⟩
end Go.Proofs.YtjmipikahaoblaaGreatDoor.Syn
namespace Go.Proofs.YtjmipikahaoblaaGreatDoor.Syn
open Go.RowKit Go.Lib Go.Proofs.YtjmipikahaoblaaGreatDoor.Bas Go.Proofs.YtjmipikahaoblaaGreatDoor.Cal Go.Proofs.YtjmipikahaoblaaGreatDoor.Lx Go.Proofs.YtjmipikahaoblaaGreatDoor.Sc Go.Proofs.YtjmipikahaoblaaGreatDoor.Dk
set_option linter.unusedVariables false

theorem made_fmt2 {x : Ex} (h : MadeB 5 x) : fmtV x = (txt [40] (exT x), 0) ∧ (txt [40] (exT x)).length ≤ 16384 ∧ (validB x = true → (exT x).length ≤ 100000) := by
  have hv := h.valid
  have hb := made_bounds
  have h1 := h.tl
  have h2 := h.wt
  have hok := ex_ok x h.ok
  have hj := join_ok (exT x) hok (by omega) (by omega)
  refine ⟨?_, ?_, ?_⟩
  · unfold fmtV
    rw [if_pos hv]
    exact hj.1
  · have := txt_le (exT x) [40]
    omega
  · intro _
    omega
/-- Arguments, each in parentheses. -/
def parF (op : Int) : Bool → Fo → List Tok
  | _, .nil => []
  | first, .cons d k r => (if first then [] else [nmT (wordOf op)]) ++ (parT (exT ⟨d, k⟩) ++ parF op false r)
theorem parF_take (op : Int) : ∀ (F : Fo) (first : Bool) (k : Nat), k < F.len → parF op first (F.take (k + 1)) = parF op first (F.take k) ++ ((if first = true ∧ k = 0 then [] else [nmT (wordOf op)]) ++ parT (exT (F.get k)))
  | .nil, _, _, hk => by rw [Fo.len] at hk; omega
  | .cons d kk r, first, 0, _ => by
    rw [Fo.get_zero]
    show parF op first (.cons d kk (r.take 0)) = parF op first .nil ++ _
    rw [show r.take 0 = Fo.nil from rfl, parF, parF]
    cases first <;> simp [parF]
  | .cons d kk r, first, k + 1, hk => by
    rw [Fo.get_succ]
    rw [Fo.len] at hk
    show parF op first (.cons d kk (r.take (k + 1))) = parF op first (.cons d kk (r.take k)) ++ _
    rw [parF, parF, parF_take op r false k (by omega)]
    simp
theorem arg_ge (op : Int) (d : Nd) (X : List Tok) : X.length ≤ (if parB op d.op = true then mkT [40] :: X ++ [mkT [41]] else X).length ∧ wt X ≤ wt (if parB op d.op = true then mkT [40] :: X ++ [mkT [41]] else X) := by
  split
  · have h1 := par_len X
    have h2 := par_wt X
    unfold parT at h1 h2
    omega
  · exact ⟨Nat.le_refl _, Nat.le_refl _⟩
theorem parF_bd (op : Int) : ∀ (F : Fo) (first : Bool), (parF op first F).length ≤ (argsT op first F).length + 2 * F.len ∧ wt (parF op first F) ≤ wt (argsT op first F) + 4 * F.len
  | .nil, _ => by simp [parF, wt]
  | .cons d k r, first => by
    have h := parF_bd op r false
    have g := arg_ge op d (nodeT d (argsT d.op true k))
    have e : exT ⟨d, k⟩ = nodeT d (argsT d.op true k) := rfl
    rw [parF, argsT, Fo.len, List.length_append, List.length_append, List.length_append, List.length_append, wt_app, wt_app, wt_app, wt_app, par_len, par_wt, e]
    omega
theorem get_bd (op : Int) : ∀ (F : Fo) (first : Bool) (k : Nat), k < F.len → (exT (F.get k)).length ≤ (argsT op first F).length ∧ wt (exT (F.get k)) ≤ wt (argsT op first F)
  | .nil, _, _, hk => by rw [Fo.len] at hk; omega
  | .cons d kk r, first, 0, _ => by
    have g := arg_ge op d (nodeT d (argsT d.op true kk))
    have e : exT ⟨d, kk⟩ = nodeT d (argsT d.op true kk) := rfl
    rw [Fo.get_zero, argsT, List.length_append, List.length_append, wt_app, wt_app, e]
    omega
  | .cons d kk r, first, k + 1, hk => by
    rw [Fo.len] at hk
    have h := get_bd op r false k (by omega)
    rw [Fo.get_succ, argsT, List.length_append, List.length_append, wt_app, wt_app]
    omega
theorem parF_parts (op : Int) : ∀ F : Fo, parF op false F = partsT (wordOf op) (F.toL.map exT)
  | .nil => rfl
  | .cons d k r => by
    rw [parF, parF_parts op r, Fo.toL, List.map_cons, partsT]
    rfl
theorem wholes_fo : ∀ F : Fo, nodesB F = true → Wholes (F.toL.map exT) F.toL
  | .nil, _ => trivial
  | .cons d k r, h => by
    rw [nodesB, Bool.and_eq_true] at h
    rw [Fo.toL, List.map_cons, Wholes]
    exact ⟨whole_ex ⟨d, k⟩ h.1, wholes_fo r h.2⟩
theorem parF_ok (op : Int) (ho : op = 7 ∨ op = 8) : ∀ (F : Fo) (first : Bool), nodesB F = true → OkT (parF op first F)
  | .nil, _, _ => okT_nil
  | .cons d k r, first, h => by
    have hw : OkT [nmT (wordOf op)] := OkT.cons (word_ok (by rcases ho with rfl | rfl <;> decide)) okT_nil
    rw [nodesB, Bool.and_eq_true] at h
    rw [parF]
    refine OkT.app ?_ (OkT.app (par_ok (ex_ok ⟨d, k⟩ h.1)) (parF_ok op ho r false h.2))
    cases first
    · exact hw
    · exact okT_nil
theorem parF_whole (op : Int) (ho : op = 7 ∨ op = 8) (F : Fo) (h2 : 2 ≤ F.len) (hn : nodesB F = true) : Whole (parF op true F) ⟨⟨op, [], [], 0, 0⟩, F⟩ := by
  cases F with
  | nil => rw [Fo.len] at h2; omega
  | cons d k r =>
    rw [nodesB, Bool.and_eq_true] at hn
    rw [Fo.len] at h2
    have hne : r.toL ≠ [] := by
      cases r with
      | nil => rw [Fo.len] at h2; omega
      | cons a b c => rw [Fo.toL]; simp
    have hE : Fo.ofL (⟨d, k⟩ :: r.toL) = .cons d k r := by rw [← Fo.ofL_toL (.cons d k r)]; rfl
    have hX : parF op true (.cons d k r) = parT (exT ⟨d, k⟩) ++ partsT (wordOf op) (r.toL.map exT) := by
      rw [parF, parF_parts]; rfl
    rw [hX, ← hE]
    rcases ho with rfl | rfl
    · exact whole_and (exT ⟨d, k⟩) _ ⟨d, k⟩ _ (whole_ex ⟨d, k⟩ hn.1) (wholes_fo r hn.2) hne
    · exact whole_or (exT ⟨d, k⟩) _ ⟨d, k⟩ _ (whole_ex ⟨d, k⟩ hn.1) (wholes_fo r hn.2) hne
theorem lst_snoc (t : Tok) : ∀ (A : List Tok) (last : List UInt8), lstW last (A ++ [t]) = wr (tkOf t)
  | [], _ => rfl
  | x :: r, last => by rw [List.cons_append, lstW, lst_snoc t r]
theorem txt_one (last : List UInt8) (X : List Tok) : txt last (parT X) = gap last [40] ++ ([40] ++ (txt [40] X ++ [41])) := by
  have h := txt_par last X []
  rw [List.append_nil, txt_nil, List.append_nil] at h
  exact h
theorem parF_lst (op : Int) (F : Fo) (k : Nat) (hk : k < F.len) : lstW [40] (parF op true (F.take (k + 1))) = [41] := by
  rw [parF_take op F true k hk]
  unfold parT
  rw [← List.append_assoc, ← List.append_assoc, lst_snoc]
  rfl
/-- The text of k + 1 arguments. -/
theorem parF_txt (op : Int) (ho : op = 7 ∨ op = 8) (F : Fo) (k : Nat) (hk : k < F.len) :
    txt [40] (parF op true (F.take (k + 1))) = (((txt [40] (parF op true (F.take k)) ++ (if k = 0 then [] else [32] ++ wordOf op ++ [32])) ++ [40]) ++ txt [40] (exT (F.get k))) ++ [41] := by
  rw [parF_take op F true k hk]
  cases k with
  | zero =>
    rw [if_pos ⟨rfl, rfl⟩, if_pos rfl, Fo.take_zero, parF, List.nil_append, List.nil_append, txt_one, txt_nil, show gap [40] [40] = [] by decide]
    simp
  | succ k =>
    rw [if_neg (by simp), if_neg (by omega), txt_app, parF_lst op F k (by omega)]
    have g1 : gap [41] (wordOf op) = [32] := by rcases ho with rfl | rfl <;> decide
    have g2 : gap (wordOf op) [40] = [32] := by rcases ho with rfl | rfl <;> decide
    rw [List.singleton_append, txt_cons, wr_nm, txt_one, g1, g2]
    simp
theorem pars_txt (k : Nat) (X : List Tok) : txt [40] (parsT (k + 1) X) = ([40] ++ txt [40] (parsT k X)) ++ [41] := by
  rw [parsT, txt_one, show gap [40] [40] = [] by decide]
  simp
theorem pars_bd (X : List Tok) (h : OkT X) : ∀ k, OkT (parsT k X) ∧ (parsT k X).length = X.length + 2 * k ∧ wt (parsT k X) = wt X + 4 * k
  | 0 => ⟨h, rfl, rfl⟩
  | k + 1 => by
    obtain ⟨h1, h2, h3⟩ := pars_bd X h k
    rw [parsT, par_len, par_wt]
    exact ⟨par_ok h1, by omega, by omega⟩
theorem pars_read {x : Ex} (h : MadeB 5 x) (k : Nat) (hk : k ≤ 9) : exprV (txt [40] (parsT k (exT x))) = (x, 0, 0) ∧ (txt [40] (parsT k (exT x))).length ≤ 5000 := by
  have m := made_bounds
  have h1 := h.tl
  have h2 := h.wt
  have h3 := h.sz
  have h4 := h.dp
  obtain ⟨g1, g2, g3⟩ := pars_bd (exT x) (ex_ok x h.ok) k
  refine ⟨(read_txt _ x (whole_pars (whole_ex x h.ok) k) g1 (by omega) (by omega)).1 ⟨by omega, by omega⟩, ?_⟩
  have := txt_le (parsT k (exT x)) [40]
  omega
/-- An expression with several arguments. -/
theorem made_two {x : Ex} (h : MadeB 5 x) (h2 : 2 ≤ x.kids.len) : ∃ op : Int, (op = 7 ∨ op = 8) ∧ x.d = ⟨op, [], [], 0, 0⟩ ∧ nodesB x.kids = true ∧ x.kids.len ≤ 120 ∧
    (∀ k, k ≤ x.kids.len → (txt [40] (parF op true (x.kids.take k))).length ≤ 6000) ∧ exprV (txt [40] (parF op true x.kids)) = (x, 0, 0) ∧
    ∀ k, k < x.kids.len → fmtV (x.kids.get k) = (txt [40] (exT (x.kids.get k)), 0) ∧ ExWf (x.kids.get k) ∧ (validB (x.kids.get k) = true → (exT (x.kids.get k)).length ≤ 100000) ∧ (txt [40] (exT (x.kids.get k))).length ≤ 5000 := by
  have m := made_bounds
  have t1 := h.tl
  have t2 := h.wt
  have t3 := h.sz
  have t4 := h.dp
  have hok := h.ok
  have hwf := h.wf
  obtain ⟨d, F⟩ := x
  obtain ⟨op, nm, ws, lo, hi⟩ := d
  unfold exB at hok
  rw [Bool.and_eq_true] at hok
  obtain ⟨hnd, hns⟩ := hok
  unfold nodeB at hnd
  simp only [Bool.and_eq_true] at hnd
  obtain ⟨⟨⟨⟨hd1, hd2⟩, hd3⟩, hd4⟩, hd5⟩ := hnd
  simp only at h2
  have hop : op = 7 ∨ op = 8 := by
    by_cases h6 : op = 6
    · rw [if_pos h6] at hd5
      have := of_decide_eq_true hd5
      omega
    · by_cases h78 : op = 7 ∨ op = 8
      · exact h78
      · rw [if_neg h6, if_neg h78] at hd5
        have := of_decide_eq_true hd5
        omega
  rw [if_neg (show ¬ (op = 3 ∨ op = 4 ∨ op = 5) by omega)] at hd2
  rw [if_neg (show ¬ op = 4 by omega)] at hd3
  rw [if_neg (show ¬ op = 5 by omega)] at hd4
  have e2 := of_decide_eq_true hd2
  have e3 := of_decide_eq_true hd3
  have e4 := of_decide_eq_true hd4
  obtain ⟨e5, e6⟩ := e4
  subst e2 e3 e5 e6
  have hsz : 1 + F.sizes ≤ szB 5 := t3
  have hdp : (⟨⟨op, [], [], 0, 0⟩, F⟩ : Ex).depth = 1 + F.deep := rfl
  have hll := Fo.len_le_sizes F
  have hT : exT ⟨⟨op, [], [], 0, 0⟩, F⟩ = argsT op true F := by
    show nodeT _ _ = _
    unfold nodeT
    rw [if_neg (show ¬ (1 ≤ op ∧ op ≤ 5) by omega), if_neg (show ¬ op = 6 by omega), List.nil_append]
  rw [hT] at t1 t2
  have hb := parF_bd op F true
  have hlt : ∀ k, k ≤ F.len → wt (parF op true (F.take k)) ≤ wt (parF op true F) := by
    have key : ∀ j k, k + j = F.len → wt (parF op true (F.take k)) ≤ wt (parF op true F) := by
      intro j
      induction j with
      | zero => intro k hk; rw [show k = F.len by omega, Fo.take_len]; exact Nat.le_refl _
      | succ j ih =>
        intro k hk
        have h1 := ih (k + 1) (by omega)
        rw [parF_take op F true k (by omega), wt_app] at h1
        omega
    intro k hk
    exact key (F.len - k) k (by omega)
  refine ⟨op, hop, rfl, hns, by show F.len ≤ 120; omega, fun k hk => ?_, ?_, fun k hk => ?_⟩
  · have h1 := hlt k hk
    have h2 := txt_le (parF op true (F.take k)) [40]
    show (txt [40] (parF op true (F.take k))).length ≤ 6000
    omega
  · exact (read_txt _ _ (parF_whole op hop F h2 hns) (parF_ok op hop F true hns) (by omega) (by omega)).1 ⟨by unfold Ex.size; show 1 + F.sizes ≤ 300; omega, by omega⟩
  · have hk2 : k < F.len := hk
    have hg := get_bd op F true k hk2
    have hkx := (Fo.nodes_get F).1 hns k hk2
    have hs := Fo.size_get_le F k hk2
    have hd := Fo.depth_get_le F k hk2
    have hv : validB (F.get k) = true := by
      unfold validB
      rw [hkx, decide_eq_true (show (F.get k).size ≤ 300 by omega), decide_eq_true (show (F.get k).depth ≤ 16 by omega)]
      rfl
    have hj := join_ok (exT (F.get k)) (ex_ok _ hkx) (by omega) (by omega)
    have hl := txt_le (exT (F.get k)) [40]
    refine ⟨?_, FoWf.get F k hwf.2.2 hk2, fun _ => by show (exT (F.get k)).length ≤ _; omega, by show (txt [40] (exT (F.get k))).length ≤ _; omega⟩
    show fmtV (F.get k) = _
    unfold fmtV
    rw [if_pos hv]
    exact hj.1
end Go.Proofs.YtjmipikahaoblaaGreatDoor.Syn
namespace Go.Proofs.YtjmipikahaoblaaGreatDoor.Syn
open Go.RowKit Go.Lib Go.Proofs.YtjmipikahaoblaaGreatDoor.Bas Go.Proofs.YtjmipikahaoblaaGreatDoor.Cal Go.Proofs.YtjmipikahaoblaaGreatDoor.Lx Go.Proofs.YtjmipikahaoblaaGreatDoor.Sc Go.Proofs.YtjmipikahaoblaaGreatDoor.Dk
set_option linter.unusedVariables false

theorem ex_kids {W : World} {x : Ex} {q1 q2 : Option Addr} {n1 c1 n2 c2 : Nat} (h : ExAt W (exV x.d (.slice q1 n1 c1) (.slice q2 n2 c2)) x) : FoAt W (.slice q2 n2 c2) x.kids ∧ x.kids.len = n2 := by
  obtain ⟨u, a, hv, h1, h2⟩ := h
  unfold exV at hv
  have hv2 := Value.agg.inj hv
  simp only [Array.mk.injEq, List.cons.injEq, true_and, and_true] at hv2
  obtain ⟨rfl, rfl⟩ := hv2
  refine ⟨h2, ?_⟩
  obtain ⟨p, c, hv, _⟩ := id h2
  exact (Value.slice.inj hv).2.1.symm
set_option maxRecDepth 8000 in
set_option maxHeartbeats 16000000 in
theorem pars_walk (v : Value) (l : List Int) (z : Int) (w : World) (hT : EnvX w) (hI : IntsAt w v l) (hn : l.length ≤ 9223372036854775807) (hwl : ∀ x ∈ l, (Lit.int .i64 x).wf = true) (hz : (Lit.int .u8 z).wf = true) :
    Calls Tryz.prog 7 #[v, .int .u8 z] w (BB true w) := by
  have cX := Lib.hid (expr_any v l w hI hn (fun x hx => Go.bounds_i64 (hwl x hx)))
  have cA := Lib.hid (fun W (hb : Below w.heap.size w W) => awake_any W (hT.keep hb))
  have cP := Lib.hid (fun (W : World) (hb : Below w.heap.size w W) (s : ByteArray) (hs : s.size ≤ 4611686018427387904) => parse_any s W (hT.keep hb) hs)
  clear hT hwl
  obtain ⟨pv, cv, rfl, _⟩ := hI
  generalize l.length = ll at *
  clear hn
  obtain ⟨hz1, hz2⟩ := Go.bounds_u8 hz
  clear hz
  obtain ⟨M, hM⟩ : ∃ M : Nat, z % 9 = (M : Int) := ⟨(z % 9).toNat, by omega⟩
  have hM8 : M ≤ 8 := by omega
  have hmt : z.tmod 9 = (M : Int) := by rw [Int.tmod_eq_emod_of_nonneg hz1]; exact hM
  clear hM
  have hzw : IntKind.i64.wrap z = z := IntWalk.i64_in _ (by omega)
  go_enter Tryz.func7, Tryz.ntmps7
  go_wp2_with fail
  refine cX.out.mono ?_; rintro e w1 ⟨x, q1, q2, n1, c1, n2, c2, rfl, hMx, hE, hB⟩
  have hal := alloc_at w1 (xo x.d (.slice q1 n1 c1) (.slice q2 n2 c2))
  have B2 := Lib.hid (hB.trans (hal.mono hB.size))
  have K2 := Lib.hid (XAt.new w1 x.d (.slice q1 n1 c1) (.slice q2 n2 c2))
  have E2 := Lib.hid (hE.at.below hal)
  obtain ⟨f1, f2, f3⟩ := made_fmt2 hMx
  have cF := Lib.hid (fun (W : World) (y : Value) (h : ExAt W y x) => rformat_any x y W h hMx.wf f3)
  rw [f1] at cF
  have cS := Lib.hid (fun (W : World) (y z : Value) (h1 : ExAt W y x) (h2 : ExAt W z x) => rsame_self x y z W h1 h2 hMx.wf)
  have hP0 : ∃ P : Nat → List UInt8, (∀ k, P k = txt [40] (parsT k (exT x))) := ⟨_, fun k => rfl⟩
  obtain ⟨P, hP⟩ := hP0
  have hPs := Lib.hid (show ∀ k, P (k + 1) = ([40] ++ P k) ++ [41] from fun k => by rw [hP, hP, pars_txt])
  have hPl := Lib.hid (show ∀ k, k ≤ 9 → (P k).length ≤ 5000 from fun k hk => by rw [hP]; exact (pars_read hMx k hk).2)
  have hPr := Lib.hid (show ∀ k, k ≤ 9 → exprV (P k) = (x, 0, 0) from fun k hk => by rw [hP]; exact (pars_read hMx k hk).1)
  rw [show txt [40] (exT x) = P 0 by rw [hP]; rfl] at cF
  have hMx' := Lib.hid hMx
  clear hB hE hal cX f1 f2 f3 hP hMx
  unfold exV
  unfold JoinOut at cF
  generalize hdx : x.d = dx at *
  have hdx' := Lib.hid hdx
  clear hdx
  go_upto_region 2 with fail
  obtain ⟨b0, hb0⟩ : ∃ b, w1.heap.size = b := ⟨_, rfl⟩
  rw [hb0] at K2 ⊢
  clear hb0
  generalize w1.alloc (xo dx (.slice q1 n1 c1) (.slice q2 n2 c2)) = W2 at *
  obtain ⟨_, y0, y1, y2, y3, y4, y5⟩ := K2.out
  have cF2 := Lib.hid (cF.out W2 _ E2.out)
  unfold exV at cF2
  go_wp2_with fail
  refine cF2.out.mono ?_; rintro e W3 ⟨rfl, hB⟩
  have B3 := Lib.hid (B2.out.trans (hB.mono B2.out.size))
  have K3 := Lib.hid (K2.out.keep hB)
  have E3 := Lib.hid (E2.out.below hB)
  clear hB cF2 cF y0 y1 y2 y3 y4 y5 K2 E2 B2
  go_wp2_with fail
  go_loopw [6, 8] (fun x6 x8 wr => ∃ k : Nat, k ≤ M ∧ x8 = .int .i64 k ∧ x6 = .string (tx (P k)) ∧ Hid (wr = W3)) (fun _ x8 _ => M - (RowKit.intOf x8).toNat)
  case atStart => exact ⟨0, Nat.zero_le _, rfl, rfl, Lib.hid (by trivial)⟩
  case round =>
    obtain ⟨k, hk, rfl, rfl, hWr⟩ := hrel
    obtain rfl := hWr.out
    clear hWr
    by_cases hlt : k < M
    · have hk64 : IntKind.i64.wrap ((k : Int) + 1) = (k : Int) + 1 := IntWalk.i64_in _ (by omega)
      have hpl := hPl.out k (by omega)
      have a1 : ∀ w, (Op.stringOp .add { data := #[40] } (tx (P k))).run Tryz.prog w = .ok (.string (tx ([40] ++ P k))) w := fun w => tx_cat [40] (P k) _ w (by simp; omega)
      have a2 : ∀ w, (Op.stringOp .add (tx ([40] ++ P k)) { data := #[41] }).run Tryz.prog w = .ok (.string (tx (P (k + 1)))) w := fun w => by
        rw [hPs.out k]
        exact tx_cat ([40] ++ P k) [41] _ w (by simp; omega)
      generalize tx ([40] ++ P k) = X1 at *
      clear hpl
      go_wp2_with fail
      go_roundw
      case rel => exact ⟨k + 1, by omega, by go_num, rfl, Lib.hid (by trivial)⟩
      case measure => simp [RowKit.intOf]; omega
    · obtain rfl : k = M := by omega
      clear hlt hk
      have hpl := hPl.out k (by omega)
      have cP3 := Lib.hid (cP.out wr B3.out (tx (P k)) (by rw [tx_size]; omega))
      rw [bl_tx, hPr.out k (by omega)] at cP3
      unfold ExprOut at cP3
      clear hpl hPs hPl hPr
      go_wp2_with fail
      refine cP3.out.mono ?_; rintro e W4 ⟨u, rfl, hu, hB⟩
      obtain ⟨uu, aa, rfl, hu1, hu2⟩ := id hu
      obtain ⟨p4, k4, rfl, _, _⟩ := hu1
      obtain ⟨p5, k5, rfl, _, _⟩ := hu2
      have hal := alloc_at W4 (xo x.d (.slice p4 x.d.ws.length k4) (.slice p5 x.kids.len k5))
      have hB5 := trans_b hB hal
      have B5 := Lib.hid (B3.out.trans (hB5.mono B3.out.size))
      have K5 := Lib.hid (K3.out.keep hB5)
      have E5 := Lib.hid (E3.out.below hB5)
      have G5 := Lib.hid (hu.at.below hal)
      have J5 := Lib.hid (XAt.new W4 x.d (.slice p4 x.d.ws.length k4) (.slice p5 x.kids.len k5))
      clear hB hB5 cP3 hu hal K3 E3 B3
      simp only [exV]
      unfold exV at G5
      have hdx2 := hdx'.out
      generalize hnw : x.d.ws.length = nw at *
      generalize hnk : x.kids.len = nk at *
      rw [hdx2] at *
      clear hdx2 hnw
      have hnk' := Lib.hid hnk
      clear hnk
      go_upto_region 8 with fail
      obtain ⟨b6, hb6⟩ : ∃ b, W4.heap.size = b := ⟨_, rfl⟩
      rw [hb6] at J5 ⊢
      clear hb6
      generalize W4.alloc (xo dx (.slice p4 nw k4) (.slice p5 nk k5)) = W5 at *
      obtain ⟨_, y0, y1, y2, y3, y4, y5⟩ := K5.out
      obtain ⟨_, z0, z1, z2, z3, z4, z5⟩ := J5.out
      have cS5 := Lib.hid (cS.out W5 _ _ E5.out G5.out)
      unfold exV at cS5
      obtain rfl : n2 = nk := by
        have h := E5.out
        rw [← hdx'.out] at h
        exact (ex_kids h).2.symm.trans hnk'.out
      by_cases h2 : n2 < 2
      · have u1 : decide ((n2 : Int) < 2) = true := by simp; omega
        clear hMx'
        go_wp2_with fail
        refine cS5.out.mono ?_; rintro e W6 ⟨rfl, hB⟩
        have B6 := Lib.hid (B5.out.trans (hB.mono B5.out.size))
        have K6 := Lib.hid (K5.out.keep hB)
        have J6 := Lib.hid (J5.out.keep hB)
        have cS6 := Lib.hid (cS.out W6 _ _ (E5.out.below hB) (G5.out.below hB))
        unfold exV at cS6
        clear hB cS5 y0 y1 y2 y3 y4 y5 z0 z1 z2 z3 z4 z5 K5 J5 E5 G5 B5
        obtain ⟨_, y0, y1, y2, y3, y4, y5⟩ := K6.out
        obtain ⟨_, z0, z1, z2, z3, z4, z5⟩ := J6.out
        go_wp2_with fail
        refine cS6.out.mono ?_; rintro e W7 ⟨rfl, hB⟩
        have B7 := Lib.hid (B6.out.trans (hB.mono B6.out.size))
        have cW := Lib.hid (cA.out W7 B7.out)
        clear hB cS6 y0 y1 y2 y3 y4 y5 z0 z1 z2 z3 z4 z5 K6 J6 B6
        go_wp2_with fail
        refine cW.out.mono ?_; rintro e W8 ⟨rfl, hB⟩
        have hf := Lib.hid (B7.out.trans (hB.mono B7.out.size))
        clear hB cW
        go_wp2_with fail
        go_ret
        exact ⟨rfl, hf.out⟩
      · have u1 : decide ((n2 : Int) < 2) = false := by simp; omega
        go_wp2_with fail
        refine cS5.out.mono ?_; rintro e W6 ⟨rfl, hB⟩
        have B6 := Lib.hid (B5.out.trans (hB.mono B5.out.size))
        have K6 := Lib.hid (K5.out.keep hB)
        have E6 := Lib.hid (E5.out.below hB)
        clear hB cS5 y0 y1 y2 y3 y4 y5 z0 z1 z2 z3 z4 z5 K5 J5 E5 G5 B5
        obtain ⟨op, hop, hd, hns, hn120, hJl, hJr, hKd⟩ := made_two hMx'.out (by rw [hnk'.out]; omega)
        rw [hnk'.out] at hJl hKd hn120
        have hE6 := E6.out
        rw [← hdx'.out] at hE6
        have F6 := Lib.hid (ex_kids hE6).1
        have hdo : Hid (dx.op = op) := Lib.hid (by rw [← hdx'.out, hd])
        obtain ⟨J, hJ⟩ : ∃ J : Nat → List UInt8, ∀ k, J k = txt [40] (parF op true (x.kids.take k)) := ⟨_, fun k => rfl⟩
        obtain ⟨T, hTT⟩ : ∃ T : Nat → List UInt8, ∀ k, T k = txt [40] (exT (x.kids.get k)) := ⟨_, fun k => rfl⟩
        have hJ0 := Lib.hid (show ({ data := #[] } : ByteArray) = tx (J 0) by rw [hJ, Fo.take_zero, parF]; rfl)
        have hJs := Lib.hid (show ∀ k, k < n2 → J (k + 1) = (((J k ++ (if k = 0 then [] else [32] ++ wordOf op ++ [32])) ++ [40]) ++ T k) ++ [41] from fun k hk => by rw [hJ, hJ, hTT]; exact parF_txt op hop x.kids k (by rw [hnk'.out]; exact hk))
        have hJb := Lib.hid (show ∀ k, k ≤ n2 → (J k).length ≤ 6000 from fun k hk => by rw [hJ]; exact hJl k hk)
        have hJe := Lib.hid (show exprV (J n2) = (x, 0, 0) by rw [hJ, ← hnk'.out, Fo.take_len]; exact hJr)
        have hTb := Lib.hid (show ∀ k, k < n2 → (T k).length ≤ 5000 from fun k hk => by rw [hTT]; exact (hKd k hk).2.2.2)
        have cK := Lib.hid (show ∀ k, k < n2 → ∀ (W : World) (y : Value), ExAt W y (x.kids.get k) → Calls Tryz.prog 27 #[y] W (JoinOut (T k, 0) W) from fun k hk W y h => by
          have g := hKd k hk
          have c := rformat_any (x.kids.get k) y W h g.2.1 g.2.2.1
          rw [g.1, ← hTT] at c
          exact c)
        have hopp := Lib.hid hop
        clear hE6 hJ hTT hd hns hJl hJr hKd hMx' hop hdx'
        have hdx' := hdo
        clear hdo
        obtain ⟨_, y0, y1, y2, y3, y4, y5⟩ := K6.out
        go_wp2_with fail
        clear y0 y1 y2 y3 y4 y5
        go_loopw [12, 13] (fun x12 x13 wr => ∃ j : Nat, j ≤ n2 ∧ x13 = .int .i64 j ∧ x12 = .string (tx (J j)) ∧ Hid (Below W6.heap.size W6 wr)) (fun _ x13 _ => n2 - (RowKit.intOf x13).toNat)
        case atStart => exact ⟨0, Nat.zero_le _, rfl, by rw [hJ0.out], Lib.hid (Below.refl _ _)⟩
        case round =>
          obtain ⟨j, hj, rfl, rfl, hB⟩ := hrel
          by_cases hlt : j < n2
          · obtain ⟨b, o, c', hv, _, hbl, ue, ae, y0, y1, y2, y3, y4, y5, z1, z2⟩ := (F6.out.below hB.out).elem j (by rw [hnk'.out]; exact hlt)
            obtain ⟨rfl, hmm, rfl⟩ := Value.slice.inj hv
            clear hmm hv
            have hx := Lib.hid (show ExAt wr (exV (x.kids.get j).d ue ae) (x.kids.get j) from ⟨ue, ae, rfl, z1, z2⟩)
            obtain ⟨q3, k3, rfl, _, _⟩ := z1
            obtain ⟨q9, k9, rfl, _, _⟩ := z2
            have cJ := Lib.hid (cK.out j hlt wr _ hx.out)
            unfold exV at cJ
            unfold JoinOut at cJ
            have hj64 : IntKind.i64.wrap ((j : Int) + 1) = (j : Int) + 1 := IntWalk.i64_in _ (by omega)
            have hJj := hJb.out j hj
            have hTj := hTb.out j hlt
            clear hx
            generalize (x.kids.get j).d = dk at *
            generalize dk.ws.length = nw3 at *
            generalize (x.kids.get j).kids.len = nk3 at *
            obtain ⟨_, g0, g1, g2, g3, g4, g5⟩ := K6.out.keep hB.out
            go_wp2_with fail
            refine cJ.out.mono ?_; rintro e W7 ⟨rfl, hB2⟩
            have B7 := Lib.hid (hB.out.trans (hB2.mono hB.out.size))
            clear cJ hB2 hB y0 y1 y2 y3 y4 y5 g0 g1 g2 g3 g4 g5
            by_cases hj0 : j = 0
            · have u2 : decide ((0 : Int) < (j : Int)) = false := by simp; omega
              have u4 : decide (0 < j) = false := by simp; omega
              have hJk := hJs.out j hlt
              rw [if_pos hj0, List.append_nil] at hJk
              have e2 : ∀ w, (Op.stringOp .add (tx (J j)) { data := #[40] }).run Tryz.prog w = .ok (.string (tx (J j ++ [40]))) w := fun w => tx_cat (J j) [40] _ w (by simp; omega)
              obtain ⟨s2, hs2⟩ : ∃ t, J j ++ [40] = t := ⟨_, rfl⟩
              have hl2 : s2.length ≤ 6020 := by rw [← hs2]; simp; omega
              rw [hs2] at e2 hJk
              have e3 : ∀ w, (Op.stringOp .add (tx s2) (tx (T j))).run Tryz.prog w = .ok (.string (tx (s2 ++ T j))) w := fun w => tx_cat s2 (T j) _ w (by omega)
              obtain ⟨s3, hs3⟩ : ∃ t, s2 ++ T j = t := ⟨_, rfl⟩
              have hl3 : s3.length ≤ 12000 := by rw [← hs3]; simp; omega
              rw [hs3] at e3 hJk
              have e4 : ∀ w, (Op.stringOp .add (tx s3) { data := #[41] }).run Tryz.prog w = .ok (.string (tx (J (j + 1)))) w := fun w => by
                rw [hJk]
                exact tx_cat s3 [41] _ w (by simp; omega)
              clear hs2 hs3 hl2 hl3 hJk hj0
              generalize tx s2 = X2 at *
              generalize tx s3 = X3 at *
              go_wp2_with fail
              go_roundw
              case rel => exact ⟨j + 1, by omega, by go_num, rfl, B7⟩
              case measure => simp [RowKit.intOf]; omega
            have u2 : decide ((0 : Int) < (j : Int)) = true := by simp; omega
            have u4 : decide (0 < j) = true := by simp; omega
            rcases hopp.out with rfl | rfl
            · have hJk := hJs.out j hlt
              rw [if_neg hj0] at hJk
              rw [show [32] ++ wordOf 7 ++ [32] = [32, 97, 110, 100, 32] from rfl] at hJk
              have hal := alloc_at W7 (.cells #[.string { data := #[32, 97, 110, 100, 32] }, .string { data := #[32, 111, 114, 32] }] 9)
              have K8 := Lib.hid ((K6.out.keep B7.out).keep hal)
              have B8 := Lib.hid (B7.out.trans (hal.mono B7.out.size))
              have e1 : ∀ w, (Op.stringOp .add (tx (J j)) { data := #[32, 97, 110, 100, 32] }).run Tryz.prog w = .ok (.string (tx (J j ++ [32, 97, 110, 100, 32]))) w := fun w => tx_cat (J j) [32, 97, 110, 100, 32] _ w (by simp; omega)
              obtain ⟨s1, hs1⟩ : ∃ t, J j ++ [32, 97, 110, 100, 32] = t := ⟨_, rfl⟩
              have hl1 : s1.length ≤ 6010 := by rw [← hs1]; simp; omega
              rw [hs1] at e1 hJk
              have e2 : ∀ w, (Op.stringOp .add (tx s1) { data := #[40] }).run Tryz.prog w = .ok (.string (tx (s1 ++ [40]))) w := fun w => tx_cat s1 [40] _ w (by simp; omega)
              obtain ⟨s2, hs2⟩ : ∃ t, s1 ++ [40] = t := ⟨_, rfl⟩
              have hl2 : s2.length ≤ 6020 := by rw [← hs2]; simp; omega
              rw [hs2] at e2 hJk
              have e3 : ∀ w, (Op.stringOp .add (tx s2) (tx (T j))).run Tryz.prog w = .ok (.string (tx (s2 ++ T j))) w := fun w => tx_cat s2 (T j) _ w (by omega)
              obtain ⟨s3, hs3⟩ : ∃ t, s2 ++ T j = t := ⟨_, rfl⟩
              have hl3 : s3.length ≤ 12000 := by rw [← hs3]; simp; omega
              rw [hs3] at e3 hJk
              have e4 : ∀ w, (Op.stringOp .add (tx s3) { data := #[41] }).run Tryz.prog w = .ok (.string (tx (J (j + 1)))) w := fun w => by
                rw [hJk]
                exact tx_cat s3 [41] _ w (by simp; omega)
              clear hs1 hs2 hs3 hl1 hl2 hl3 hJk hal hj0
              generalize tx s1 = X1 at *
              generalize tx s2 = X2 at *
              generalize tx s3 = X3 at *
              have hdo := hdx'.out
              obtain ⟨_, g0, g1, g2, g3, g4, g5⟩ := K8.out
              rw [hdo] at g0
              clear hdo
              go_wp2_with fail
              go_roundw
              case rel => exact ⟨j + 1, by omega, by go_num, rfl, B8⟩
              case measure => simp [RowKit.intOf]; omega
            · have hJk := hJs.out j hlt
              rw [if_neg hj0] at hJk
              rw [show [32] ++ wordOf 8 ++ [32] = [32, 111, 114, 32] from rfl] at hJk
              have hal := alloc_at W7 (.cells #[.string { data := #[32, 97, 110, 100, 32] }, .string { data := #[32, 111, 114, 32] }] 9)
              have K8 := Lib.hid ((K6.out.keep B7.out).keep hal)
              have B8 := Lib.hid (B7.out.trans (hal.mono B7.out.size))
              have e1 : ∀ w, (Op.stringOp .add (tx (J j)) { data := #[32, 111, 114, 32] }).run Tryz.prog w = .ok (.string (tx (J j ++ [32, 111, 114, 32]))) w := fun w => tx_cat (J j) [32, 111, 114, 32] _ w (by simp; omega)
              obtain ⟨s1, hs1⟩ : ∃ t, J j ++ [32, 111, 114, 32] = t := ⟨_, rfl⟩
              have hl1 : s1.length ≤ 6010 := by rw [← hs1]; simp; omega
              rw [hs1] at e1 hJk
              have e2 : ∀ w, (Op.stringOp .add (tx s1) { data := #[40] }).run Tryz.prog w = .ok (.string (tx (s1 ++ [40]))) w := fun w => tx_cat s1 [40] _ w (by simp; omega)
              obtain ⟨s2, hs2⟩ : ∃ t, s1 ++ [40] = t := ⟨_, rfl⟩
              have hl2 : s2.length ≤ 6020 := by rw [← hs2]; simp; omega
              rw [hs2] at e2 hJk
              have e3 : ∀ w, (Op.stringOp .add (tx s2) (tx (T j))).run Tryz.prog w = .ok (.string (tx (s2 ++ T j))) w := fun w => tx_cat s2 (T j) _ w (by omega)
              obtain ⟨s3, hs3⟩ : ∃ t, s2 ++ T j = t := ⟨_, rfl⟩
              have hl3 : s3.length ≤ 12000 := by rw [← hs3]; simp; omega
              rw [hs3] at e3 hJk
              have e4 : ∀ w, (Op.stringOp .add (tx s3) { data := #[41] }).run Tryz.prog w = .ok (.string (tx (J (j + 1)))) w := fun w => by
                rw [hJk]
                exact tx_cat s3 [41] _ w (by simp; omega)
              clear hs1 hs2 hs3 hl1 hl2 hl3 hJk hal hj0
              generalize tx s1 = X1 at *
              generalize tx s2 = X2 at *
              generalize tx s3 = X3 at *
              have hdo := hdx'.out
              obtain ⟨_, g0, g1, g2, g3, g4, g5⟩ := K8.out
              rw [hdo] at g0
              clear hdo
              go_wp2_with fail
              go_roundw
              case rel => exact ⟨j + 1, by omega, by go_num, rfl, B8⟩
              case measure => simp [RowKit.intOf]; omega
          · obtain rfl : j = n2 := by omega
            have hJj := hJb.out j (Nat.le_refl _)
            have B7 := Lib.hid (B6.out.trans (hB.out.mono B6.out.size))
            have K7 := Lib.hid (K6.out.keep hB.out)
            have E7 := Lib.hid (E6.out.below hB.out)
            have cP7 := Lib.hid (cP.out wr B7.out (tx (J j)) (by rw [tx_size]; omega))
            rw [bl_tx, hJe.out] at cP7
            unfold ExprOut at cP7
            clear hJj hlt hj hJs hJb hTb cK F6 hB K6 E6 B6 h2 u1
            obtain ⟨_, y0, y1, y2, y3, y4, y5⟩ := K7.out
            have u3 : decide ((j : Int) < (j : Int)) = false := by simp
            go_wp2_with fail
            refine cP7.out.mono ?_; rintro e W8 ⟨u, rfl, hu, hB⟩
            obtain ⟨uu, aa, rfl, hu1, hu2⟩ := id hu
            obtain ⟨p6, k6, rfl, _, _⟩ := hu1
            obtain ⟨p7, k7, rfl, _, _⟩ := hu2
            have hal := alloc_at W8 (xo x.d (.slice p6 x.d.ws.length k6) (.slice p7 x.kids.len k7))
            have hB9 := trans_b hB hal
            have B9 := Lib.hid (B7.out.trans (hB9.mono B7.out.size))
            have K9 := Lib.hid (K7.out.keep hB9)
            have E9 := Lib.hid (E7.out.below hB9)
            have G9 := Lib.hid (hu.at.below hal)
            have J9 := Lib.hid (XAt.new W8 x.d (.slice p6 x.d.ws.length k6) (.slice p7 x.kids.len k7))
            clear hB hB9 cP7 hu hal K7 E7 B7 y0 y1 y2 y3 y4 y5
            simp only [exV]
            unfold exV at G9
            generalize x.d.ws.length = nw2 at *
            generalize x.kids.len = nk2 at *
            generalize x.d = dy at *
            go_upto_region 19 with fail
            obtain ⟨b8, hb8⟩ : ∃ b, W8.heap.size = b := ⟨_, rfl⟩
            rw [hb8] at J9 ⊢
            clear hb8
            generalize W8.alloc (xo dy (.slice p6 nw2 k6) (.slice p7 nk2 k7)) = W9 at *
            obtain ⟨_, y0, y1, y2, y3, y4, y5⟩ := K9.out
            obtain ⟨_, z0, z1, z2, z3, z4, z5⟩ := J9.out
            have cS9 := Lib.hid (cS.out W9 _ _ E9.out G9.out)
            unfold exV at cS9
            go_wp2_with fail
            refine cS9.out.mono ?_; rintro e W10 ⟨rfl, hB⟩
            have B10 := Lib.hid (B9.out.trans (hB.mono B9.out.size))
            have cW := Lib.hid (cA.out W10 B10.out)
            clear hB cS9 y0 y1 y2 y3 y4 y5 z0 z1 z2 z3 z4 z5 K9 J9 B9 E9 G9
            go_wp2_with fail
            refine cW.out.mono ?_; rintro e W11 ⟨rfl, hB⟩
            have hf := Lib.hid (B10.out.trans (hB.mono B10.out.size))
            clear hB cW
            go_wp2_with fail
            go_ret
            exact ⟨rfl, hf.out⟩
end Go.Proofs.YtjmipikahaoblaaGreatDoor.Syn
