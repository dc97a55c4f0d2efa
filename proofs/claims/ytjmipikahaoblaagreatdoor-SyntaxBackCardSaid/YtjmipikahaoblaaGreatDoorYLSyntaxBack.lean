/- Tokens that functions make. The program's writer: lists of words. The program's writer: arguments. The program's writer, whole. An expression that was written is read as the same expression: the statement. -/
import Derived.Test.YtjmipikahaoblaaGreatDoorZ03
import Derived.Test.YtjmipikahaoblaaGreatDoorZ10
import Derived.Test.YtjmipikahaoblaaGreatDoorZ04
import Derived.Test.YtjmipikahaoblaaGreatDoorZ05
import Derived.Deep.RegionHeld3
import Derived.Test.YtjmipikahaoblaaGreatDoorZ12
import Derived.Test.YtjmipikahaoblaaGreatDoorZ14
import Derived.Test.YtjmipikahaoblaaGreatDoorZ08
namespace Go.Proofs.YtjmipikahaoblaaGreatDoor.Syn
open Go.RowKit Go.Lib Go.Proofs.YtjmipikahaoblaaGreatDoor.Bas Go.Proofs.YtjmipikahaoblaaGreatDoor.Cal Go.Proofs.YtjmipikahaoblaaGreatDoor.Lx Go.Proofs.YtjmipikahaoblaaGreatDoor.Sc
set_option linter.unusedVariables false

def tkv (t : Tok) : Value := .agg #[.int .i64 t.k, .string (tx t.t), .int .i64 t.n, .int .i64 0]
def TokR (t : Tok) (w : World) (e : Ending) (w' : World) : Prop := e = .returned (tkv t) ∧ Below w.heap.size w w'
set_option maxHeartbeats 1000000 in
theorem wordtk_any (s : List UInt8) (w : World) : Calls Tryz.prog 69 #[.string (tx s)] w (TokR (nmT s) w) := by
  go_enter Tryz.func69, Tryz.ntmps69
  go_wp2_with fail
  exact bodyPost_ret (v := tkv (nmT s)) (by simp [results, Tryz.results69, go_sem, tkv, nmT]) rfl ⟨rfl, alloc_at w _⟩
set_option maxHeartbeats 1000000 in
theorem marktk_any (s : List UInt8) (w : World) : Calls Tryz.prog 114 #[.string (tx s)] w (TokR (mkT s) w) := by
  go_enter Tryz.func114, Tryz.ntmps114
  go_wp2_with fail
  exact bodyPost_ret (v := tkv (mkT s)) (by simp [results, Tryz.results114, go_sem, tkv, mkT]) rfl ⟨rfl, alloc_at w _⟩
set_option maxHeartbeats 1000000 in
theorem numtk_any (n : Int) (w : World) : Calls Tryz.prog 71 #[.int .i64 n] w (TokR (noT n) w) := by
  go_enter Tryz.func71, Tryz.ntmps71
  go_wp2_with fail
  exact bodyPost_ret (v := tkv (noT n)) (by simp [results, Tryz.results71, go_sem, tkv, noT, tx]) rfl ⟨rfl, alloc_at w _⟩
set_option maxHeartbeats 1000000 in
theorem rword_any (s : List UInt8) (w : World) : Calls Tryz.prog 74 #[.string (tx s)] w (TokR (nmT s) w) := by
  go_enter Tryz.func74, Tryz.ntmps74
  go_wp2_with fail
  exact bodyPost_ret (v := tkv (nmT s)) (by simp [results, Tryz.results74, go_sem, tkv, nmT]) rfl ⟨rfl, alloc_at w _⟩
set_option maxHeartbeats 1000000 in
theorem rmark_any (s : List UInt8) (w : World) : Calls Tryz.prog 76 #[.string (tx s)] w (TokR (mkT s) w) := by
  go_enter Tryz.func76, Tryz.ntmps76
  go_wp2_with fail
  exact bodyPost_ret (v := tkv (mkT s)) (by simp [results, Tryz.results76, go_sem, tkv, mkT]) rfl ⟨rfl, alloc_at w _⟩
set_option maxHeartbeats 1000000 in
theorem rnumber_any (n : Int) (w : World) : Calls Tryz.prog 77 #[.int .i64 n] w (TokR (noT n) w) := by
  go_enter Tryz.func77, Tryz.ntmps77
  go_wp2_with fail
  exact bodyPost_ret (v := tkv (noT n)) (by simp [results, Tryz.results77, go_sem, tkv, noT, tx]) rfl ⟨rfl, alloc_at w _⟩
/-- A row with more tokens. -/
def ToksO (B : Nat) (v : Value) (L : List Tk) (w : World) (e : Ending) (w' : World) : Prop := ∃ u, e = .returned u ∧ TRow B w' u L ∧ Own v w u w'
/-- Tokens that were just laid. -/
theorem lit_toks (w : World) (M : List Tok) (g : Nat) (hg : w.heap.size = g) (n : Nat) (hn : M.length = n) : TksAt (w.alloc (.cells (flat4 (tksOf M)).toArray 71)) (.slice (some ⟨g, 0, none⟩) n n) (tksOf M) := by
  subst hg
  subst hn
  have hl : (tksOf M).length = M.length := by unfold tksOf; rw [List.length_map]
  refine ⟨_, M.length, by rw [hl], ⟨by omega, fun e => by cases e⟩, fun _ => ⟨w.heap.size, 0, rfl, fun j hj => ?_⟩⟩
  have hf := flat4_at (tksOf M) j hj
  rw [tk_at (tksOf M) j hj, Nat.zero_add]
  have hs : ∀ i u, (flat4 (tksOf M))[i]? = some u → (w.alloc (.cells (flat4 (tksOf M)).toArray 71)).cell? ⟨w.heap.size, i, none⟩ = some u := fun i u h => by
    simp [h]
  exact ⟨hs _ _ hf.1, hs _ _ hf.2.1, hs _ _ hf.2.2.1, hs _ _ hf.2.2.2⟩
theorem tksOf_len (M : List Tok) : (tksOf M).length = M.length := by unfold tksOf; rw [List.length_map]
theorem tksOf_app (M N : List Tok) : tksOf (M ++ N) = tksOf M ++ tksOf N := by unfold tksOf; rw [List.map_append]

end Go.Proofs.YtjmipikahaoblaaGreatDoor.Syn
namespace Go.Proofs.YtjmipikahaoblaaGreatDoor.Syn
open Go.RowKit Go.Lib Go.Proofs.YtjmipikahaoblaaGreatDoor.Bas Go.Proofs.YtjmipikahaoblaaGreatDoor.Cal Go.Proofs.YtjmipikahaoblaaGreatDoor.Lx Go.Proofs.YtjmipikahaoblaaGreatDoor.Sc
set_option linter.unusedVariables false

def bfW (k : Nat) : List UInt8 := if k = 0 then [40] else [44]
def preW (ws : List (List UInt8)) (k : Nat) : List Tok := if k = 0 then [] else mkT [40] :: listT true (ws.take k)
theorem preW_succ (ws : List (List UInt8)) (k : Nat) (h : k < ws.length) : preW ws (k + 1) = preW ws k ++ [mkT (bfW k), nmT (ws.getD k [])] := by
  unfold preW bfW
  rw [if_neg (by omega), list_take ws true k h]
  by_cases h0 : k = 0
  · subst h0; simp [listT]
  · rw [if_neg h0, if_neg (by simp [h0]), if_neg h0]; rfl
theorem preW_len (ws : List (List UInt8)) (k : Nat) : (preW ws k).length ≤ 2 * ws.length + 1 := by
  unfold preW
  split
  · simp
  · have h1 := (list_len (ws.take k)).1
    have h2 : (ws.take k).length ≤ ws.length := by rw [List.length_take]; omega
    rw [List.length_cons]
    omega
set_option maxRecDepth 8000 in
set_option maxHeartbeats 8000000 in
theorem pwwords_any (v : Value) (L : List Tk) (u : Value) (ws : List (List UInt8)) (w : World) (B : Nat) (hR : TRow B w v L) (hS : StrsS (fun b => b < B) w u ws) (h1 : 1 ≤ ws.length) (hL : L.length + 2 * ws.length + 2 ≤ 200000) (hB : B ≤ w.heap.size) :
    Calls Tryz.prog 70 #[v, u] w (ToksO B v (L ++ tksOf (mkT [40] :: listT true ws ++ [mkT [41]])) w) := by
  have hF := Lib.hid (fun (W : World) (y : Value) (hO : Own v w y W) => hS.frame (T := fun b => b < B) fun b hb hl => ⟨hb, (hO.blk (fun g hg => (hR.block g hg).1) hB).block b hb⟩)
  have hR' := Lib.hid hR
  have hpre := Lib.hid (fun k (hk : k < ws.length) => (show (L ++ tksOf (preW ws k)) ++ tksOf [mkT (bfW k), nmT (ws.getD k [])] = L ++ tksOf (preW ws (k + 1)) from by rw [preW_succ ws k hk, tksOf_app, List.append_assoc]))
  have hend := Lib.hid (show ∀ k, k = ws.length → (L ++ tksOf (preW ws k)) ++ tksOf [mkT [41]] = L ++ tksOf (mkT [40] :: listT true ws ++ [mkT [41]]) from fun k hk => by
    have h2 : preW ws k = mkT [40] :: listT true ws := by unfold preW; rw [if_neg (by omega), hk, List.take_length]
    rw [h2, tksOf_app, List.append_assoc])
  have hlp := Lib.hid (show ∀ k, (L ++ tksOf (preW ws k)).length ≤ 199999 from fun k => by
    have := preW_len ws k
    rw [List.length_append, tksOf_len]; omega)
  have hz : tksOf (preW ws 0) = [] := rfl
  have hfin := Lib.hid (fun (y : Value) (W : World) (h : TRow B W y (L ++ tksOf (mkT [40] :: listT true ws ++ [mkT [41]]))) (hO : Own v w y W) => (show ToksO B v (L ++ tksOf (mkT [40] :: listT true ws ++ [mkT [41]])) w (.returned y) W from ⟨y, rfl, h, hO⟩))
  generalize L ++ tksOf (mkT [40] :: listT true ws ++ [mkT [41]]) = LL at *
  have cM := Lib.hid (fun s w => marktk_any s w)
  have cN := Lib.hid (fun s w => wordtk_any s w)
  obtain ⟨p, c, rfl, hcc, _⟩ := hS
  obtain ⟨n, hn⟩ : ∃ n, ws.length = n := ⟨_, rfl⟩
  have hn' := Lib.hid hn
  rw [hn] at h1 hL hpre hend hF ⊢
  clear hn hcc hR
  go_enter Tryz.func70, Tryz.ntmps70
  go_wp2_with fail
  go_loopw [0, 5, 10] (fun x0 x5 x10 wr => ∃ k : Nat, k ≤ n ∧ x10 = .int .i64 k ∧ x5 = .string (tx (bfW k)) ∧ Hid (TRow B wr x0 (L ++ tksOf (preW ws k))) ∧ Hid (Own v w x0 wr)) (fun _ _ x _ => n - (RowKit.intOf x).toNat)
  case atStart => exact ⟨0, Nat.zero_le _, rfl, rfl, Lib.hid (by rw [hz, List.append_nil]; exact hR'.out), Lib.hid (Own.refl _ _)⟩
  case round =>
    obtain ⟨k, hk, rfl, rfl, hX, hO⟩ := hrel
    have hl1 := hlp.out k
    have hBw : B ≤ wr.heap.size := by have := hO.out.size; omega
    by_cases hlt : k < n
    · obtain ⟨p', c', hv, _, hp⟩ := hF.out wr _ hO.out
      rw [hn'.out] at hv hp
      obtain ⟨rfl, _, rfl⟩ := Value.slice.inj hv
      obtain ⟨b, off, rfl, hb, hc⟩ := hp (by omega)
      have hck := hc k hlt
      clear hc hp hv
      have hk64 : IntKind.i64.wrap ((k : Int) + 1) = (k : Int) + 1 := IntWalk.i64_in _ (by omega)
      have hpk := Lib.hid (hpre.out k hlt)
      have hb44 : k + 1 ≠ 0 := by omega
      have hbf : (ByteArray.mk #[44]) = tx (bfW (k + 1)) := by unfold bfW; rw [if_neg hb44]; rfl
      have hbf' := Lib.hid hbf
      clear hb44 hbf
      generalize ws.getD k [] = y at *
      generalize bfW k = bf at *
      go_wp2_with fail
      refine (cM.out bf wr).mono ?_; rintro e w1 ⟨rfl, hB1⟩
      have O1 := Lib.hid (hO.out.below hB1)
      have X1 := Lib.hid (hX.out.keep hB1)
      clear hX hO hB1
      simp only [tkv, mkT]
      go_wp2_with fail
      refine (cN.out y w1).mono ?_; rintro e w2 ⟨rfl, hB2⟩
      have hal := alloc_at w2 (.cells (flat4 (tksOf [mkT bf, nmT y])).toArray 71)
      have O2 := Lib.hid ((O1.out.below hB2).below hal)
      have X2 := Lib.hid ((X1.out.keep hB2).keep hal)
      have hBw2 : B ≤ (w2.alloc (.cells (flat4 (tksOf [mkT bf, nmT y])).toArray 71)).heap.size := by have := O2.out.size; omega
      have M2 := Lib.hid (lit_toks w2 [mkT bf, nmT y] w2.heap.size rfl 2 rfl)
      clear X1 O1 hB2 hck hal
      simp only [tkv, nmT]
      go_wp2_with (at_builtin; refine wpList_app_toks rfl (.tmp 14) (.tmp 19) rfl B u0 (L ++ tksOf (preW ws k)) rfl X2.out _ (tksOf [mkT bf, nmT y]) rfl M2.out (by rw [tksOf_len]; exact Nat.zero_lt_succ _) (by rw [tksOf_len]; simp only [List.length_cons, List.length_nil]; omega) hBw2 ?_; intro v3 w3 hX3 hO3; refine Hid.out ?_)
      refine Lib.hid ?_
      rw [hpk.out] at hX3
      have X3 := Lib.hid hX3
      have O3 := Lib.hid (O2.out.trans hO3)
      clear hX3 hO3 X2 O2 M2
      go_wp2_with fail
      go_roundw
      case rel => exact ⟨k + 1, by omega, by go_num, by rw [hbf'.out], X3, O3⟩
      case measure => simp [RowKit.intOf]; omega
    · have he := Lib.hid (hend.out k (by omega))
      clear hend
      go_wp2_with fail
      refine (cM.out [41] wr).mono ?_; rintro e w1 ⟨rfl, hB1⟩
      have hal := alloc_at w1 (.cells (flat4 (tksOf [mkT [41]])).toArray 71)
      have O1 := Lib.hid ((hO.out.below hB1).below hal)
      have X1 := Lib.hid ((hX.out.keep hB1).keep hal)
      have hBw2 : B ≤ (w1.alloc (.cells (flat4 (tksOf [mkT [41]])).toArray 71)).heap.size := by have := O1.out.size; omega
      have M1 := Lib.hid (lit_toks w1 [mkT [41]] w1.heap.size rfl 1 rfl)
      clear hX hO hB1 hal
      simp only [tkv, mkT]
      go_wp2_with (at_builtin; refine wpList_app_toks rfl (.tmp 22) (.tmp 24) rfl B u0 (L ++ tksOf (preW ws k)) rfl X1.out _ (tksOf [mkT [41]]) rfl M1.out (by rw [tksOf_len]; exact Nat.zero_lt_succ _) (by rw [tksOf_len]; simp only [List.length_cons, List.length_nil]; omega) hBw2 ?_; intro v3 w3 hX3 hO3; refine Hid.out ?_)
      refine Lib.hid ?_
      rw [he.out] at hX3
      have hf := Lib.hid (hfin.out _ _ hX3 (O1.out.trans hO3))
      clear hX3 hO3 X1 O1 M1
      go_wp2_with fail
      go_ret
      exact hf.out
end Go.Proofs.YtjmipikahaoblaaGreatDoor.Syn
namespace Go.Proofs.YtjmipikahaoblaaGreatDoor.Syn
open Go.RowKit Go.Lib Go.Proofs.YtjmipikahaoblaaGreatDoor.Bas Go.Proofs.YtjmipikahaoblaaGreatDoor.Cal Go.Proofs.YtjmipikahaoblaaGreatDoor.Lx Go.Proofs.YtjmipikahaoblaaGreatDoor.Sc
set_option linter.unusedVariables false

/-- What writes the tokens of expressions of at most n nodes. -/
def WrOk (n : Nat) : Prop := ∀ (e : Ex) (x : Value) (w : World) (B : Nat) (v : Value) (L : List Tk), e.size ≤ n → ExS (fun b => b < B) w x e → exB e = true → TRow B w v L → L.length + (exT e).length ≤ 100000 → B ≤ w.heap.size → OpsAt w → 0 < B →
  Calls Tryz.prog 48 #[v, x] w (ToksO B v (L ++ tksOf (exT e)) w)
def ArgOk (n : Nat) : Prop := ∀ (e : Ex) (op : Int) (x : Value) (w : World) (B : Nat) (v : Value) (L : List Tk), e.size ≤ n → ExS (fun b => b < B) w x e → exB e = true → TRow B w v L → L.length + (argT op e.d e.kids).length ≤ 100000 → B ≤ w.heap.size → OpsAt w → 0 < B →
  Calls Tryz.prog 72 #[v, x, .int .i64 op] w (ToksO B v (L ++ tksOf (argT op e.d e.kids)) w)
theorem ex_op {e : Ex} (h : exB e = true) : 1 ≤ e.d.op ∧ e.d.op ≤ 8 := by
  unfold exB at h
  rw [Bool.and_eq_true] at h
  have h1 := h.1
  unfold nodeB at h1
  simp only [Bool.and_eq_true, decide_eq_true_eq] at h1
  exact h1.1.1.1.1
theorem OpsAt.own {v x : Value} {w w' : World} {B : Nat} (h : OpsAt w) (hO : Own v w x w') (hv : ∀ g, v.ownBlock = some g → B ≤ g) (hB : B ≤ w.heap.size) (hg : 0 < B) : OpsAt w' := h.block ((hO.blk hv hB).block _ hg)
theorem opr_mr (k : Nat) (h : 1 ≤ k ∧ k ≤ 8) : (opr k).mr = decide (7 ≤ k) := by
  rcases (show k = 1 ∨ k = 2 ∨ k = 3 ∨ k = 4 ∨ k = 5 ∨ k = 6 ∨ k = 7 ∨ k = 8 by omega) with rfl | rfl | rfl | rfl | rfl | rfl | rfl | rfl <;> decide
set_option maxRecDepth 8000 in
set_option maxHeartbeats 8000000 in
theorem arg_of (n : Nat) (hW : WrOk n) : ArgOk n := by
  intro e op x w B v L hn hE hx hR hl hB hO hg
  obtain ⟨u, a, rfl, hu, hF⟩ := hE
  have al := alloc_at w (xo e.d u a)
  have X0 := Lib.hid (XAt.new w e.d u a)
  have hb0v : v.ownBlock ≠ some w.heap.size := fun e => by have := (hR.block _ e).2; omega
  have R0 := Lib.hid (hR.keep al)
  have hO0 := hO.keep al
  have O0 := Lib.hid (Own.of_below v al)
  have E0 := Lib.hid ((show ExS (fun b => b < B) w (exV e.d u a) e from ⟨u, a, rfl, hu, hF⟩).below al)
  have hBW : B ≤ (w.alloc (xo e.d u a)).heap.size := by have := al.size; omega
  have hop := ex_op hx
  have cW := Lib.hid (fun (W : World) (y : Value) (M : List Tk) (h1 : Own v (w.alloc (xo e.d u a)) y W) (h2 : TRow B W y M) (h3 : M.length + (exT e).length ≤ 100000) => hW e (exV e.d u a) W B y M hn (E0.out.frame fun b hb _ => ⟨hb, (h1.blk (fun g hg => (hR.block g hg).1) hBW).block b hb⟩) hx h2 h3 (by have := h1.size; omega) (hO0.own h1 (fun g hg => (hR.block g hg).1) hBW hg) hg)
  obtain ⟨k, hk⟩ : ∃ k : Nat, e.d.op = k := ⟨e.d.op.toNat, by omega⟩
  have hk1 : 1 ≤ k ∧ k ≤ 8 := by omega
  have hr5 := (hO0 k (by omega)).2.2.2.2.2
  rw [opr_mr k hk1] at hr5
  have hyes := Lib.hid (show parB op e.d.op = false → argT op e.d e.kids = exT e from fun h => by unfold argT; rw [if_neg (by rw [h]; simp)]; rfl)
  have hpar := Lib.hid (show parB op e.d.op = true → argT op e.d e.kids = [mkT [40]] ++ exT e ++ [mkT [41]] from fun h => by unfold argT; rw [if_pos h]; rfl)
  have hll : (exT e).length ≤ (argT op e.d e.kids).length := by
    cases h : parB op e.d.op with
    | false => rw [hyes.out h]; exact Nat.le_refl _
    | true => rw [hpar.out h]; simp; omega
  have hl2 : parB op e.d.op = true → (exT e).length + 2 ≤ (argT op e.d e.kids).length := fun h => by rw [hpar.out h]; simp
  have hl2' := Lib.hid hl2
  have hpB : parB op e.d.op = (decide (7 ≤ k) && !(decide (k = 7) && decide (op = 8))) := by
    unfold parB
    rw [hk]
    by_cases h7 : k = 7
    · subst h7
      by_cases h8 : op = 8
      · simp [h8]
      · simp [h8]
    · by_cases h8 : k = 8
      · subst h8; simp
      · have e1 : decide ((k : Int) = 8) = false := decide_eq_false (by omega)
        have e2 : decide ((k : Int) = 7) = false := decide_eq_false (by omega)
        have e3 : decide (7 ≤ k) = false := decide_eq_false (by omega)
        rw [e1, e2, e3]; rfl
  rw [hpB] at hyes hpar hl2'
  have cM := Lib.hid (fun s w => marktk_any s w)
  have c40 := Lib.hid (fun w => (show Calls Tryz.prog 114 #[.string { data := #[40] }] w (TokR (mkT [40]) w) from marktk_any [40] w))
  obtain ⟨pu, cu, rfl, _, _⟩ := hu
  obtain ⟨p, c, rfl, _, _⟩ := hF
  unfold exV at cW ⊢
  clear hpB hl2 hx hn hR hO al hO0 E0
  generalize argT op e.d e.kids = AT at *
  generalize exT e = ET at *
  generalize e.d.ws.length = nw at *
  generalize e.kids.len = nk at *
  generalize e.d = d at *
  obtain ⟨dop, dnm, dws, dlo, dhi⟩ := d
  simp only at hk
  subst hk
  simp only at *
  go_enter Tryz.func72, Tryz.ntmps72
  go_upto_region 1 with fail
  obtain ⟨b0, hb0⟩ : ∃ b, w.heap.size = b := ⟨_, rfl⟩
  rw [hb0] at X0 hb0v ⊢
  clear hb0
  generalize w.alloc (xo ⟨(k : Int), dnm, dws, dlo, dhi⟩ (.slice pu nw cu) (.slice p nk c)) = W0 at *
  obtain ⟨_, y0, y1, y2, y3, y4, y5⟩ := X0.out
  simp only at y0 y1 y3 y4
  have hfin := Lib.hid (fun (y : Value) (W : World) (M : List Tk) (hM : M = L ++ tksOf AT) (h : TRow B W y M) (hO : Own v w y W) => (show ToksO B v (L ++ tksOf AT) w (.returned y) W from ⟨y, rfl, by rw [← hM]; exact h, hO⟩))
  by_cases hplain : (decide (7 ≤ k) && !(decide (k = 7) && decide (op = 8))) = false
  · have hAT := hyes.out hplain
    have c1 := Lib.hid (cW.out W0 v L (Own.refl _ _) R0.out (by omega))
    have hcase : (k ≤ 6) ∨ (k = 7 ∧ op = 8) := by
      by_cases h6 : k ≤ 6
      · exact .inl h6
      · rw [decide_eq_true (show 7 ≤ k by omega)] at hplain
        simp at hplain
        exact .inr hplain
    clear hplain hyes hpar hl2' cW hl hll
    rcases hcase with h6 | ⟨rfl, rfl⟩
    · rw [decide_eq_false (show ¬ 7 ≤ k by omega)] at hr5
      go_wp2_with fail
      refine c1.out.mono ?_; rintro e w1 ⟨y, rfl, hY, hO1⟩
      have hf := Lib.hid (hfin.out y w1 _ (by rw [hAT]) hY (O0.out.trans hO1))
      clear hY hO1 c1 y0 y1 y2 y3 y4 y5 hr5
      go_wp2_with fail
      go_ret
      exact hf.out
    · rw [decide_eq_true (show 7 ≤ 7 by omega)] at hr5
      go_wp2_with fail
      refine c1.out.mono ?_; rintro e w1 ⟨y, rfl, hY, hO1⟩
      have hf := Lib.hid (hfin.out y w1 _ (by rw [hAT]) hY (O0.out.trans hO1))
      clear hY hO1 c1 y0 y1 y2 y3 y4 y5 hr5
      go_wp2_with fail
      go_ret
      exact hf.out
  · have hpl : (decide (7 ≤ k) && !(decide (k = 7) && decide (op = 8))) = true := by
      cases h : (decide (7 ≤ k) && !(decide (k = 7) && decide (op = 8))) with
      | false => exact absurd h hplain
      | true => rfl
    have hAT := hpar.out hpl
    have hl3 := hl2'.out hpl
    have h7 : 7 ≤ k := by
      by_cases h : 7 ≤ k
      · exact h
      · rw [decide_eq_false h] at hpl; simp at hpl
    rw [decide_eq_true h7] at hr5 hpl
    have ht : ((k : Int) == 7) = true ∧ (op == 8) = false ∨ ((k : Int) == 7) = false := by
      by_cases e7 : k = 7
      · left
        refine ⟨by simp [e7], ?_⟩
        by_cases e8 : op = 8
        · rw [decide_eq_true e7, decide_eq_true e8] at hpl; simp at hpl
        · simpa using e8
      · right; simp; omega
    have hend := Lib.hid (show ((L ++ tksOf [mkT [40]]) ++ tksOf ET) ++ tksOf [mkT [41]] = L ++ tksOf AT from by rw [hAT, tksOf_app, tksOf_app]; simp only [List.append_assoc])
    have hlen2 : L.length + ET.length + 2 ≤ 100000 := by omega
    have hvb := Lib.hid (fun (g : Nat) (h : v.ownBlock = some g) => (R0.out.block g h))
    have c2 := Lib.hid (fun (W : World) (y : Value) (h1 : Own v W0 y W) (h2 : TRow B W y (L ++ tksOf [mkT [40]])) => cW.out W y _ h1 h2 (by rw [List.length_append, tksOf_len, List.length_singleton]; omega))
    have hX' := Lib.hid (fun (W : World) (y : Value) (h1 : Own v W0 y W) => (X0.out.own h1 hb0v).2)
    clear hplain hpl hyes hpar hl2' cW hl hll hl3 hAT
    rcases ht with ⟨t1, t2⟩ | t1
    all_goals
      go_upto_region 3 with fail
      go_cut [0] (fun x0 wx => Hid (TRow B wx x0 ((L ++ tksOf [mkT [40]]) ++ tksOf ET)) ∧ Hid (Own v W0 x0 wx))
      case first =>
        go_region_held3 (fun w' => w'.cell? ⟨b0, 0, none⟩ = some (.int .i64 (k : Int)) ∧ w'.cell? ⟨b0, 1, none⟩ = some (.string (tx dnm)) ∧ w'.cell? ⟨b0, 2, none⟩ = some (.slice pu nw cu) ∧ w'.cell? ⟨b0, 3, none⟩ = some (.int .i64 dlo) ∧ w'.cell? ⟨b0, 4, none⟩ = some (.int .i64 dhi) ∧ w'.cell? ⟨b0, 5, none⟩ = some (.slice p nk c))
          ((first
            | exact hX'.out _ v ((Own.refl v W0).below (below_drewN (Below.refl _ _) 1))
            | exact hX'.out _ _ o3.out
            | exact hX'.out _ _ o2.out
            | exact hX'.out _ _ (o1.out.below (alloc_at _ _))
            | exact hX'.out _ _ o1.out))
          (first
            | (go_at_call 114; (with_reducible refine (c40.out _).mono ?_); rintro e w1 ⟨rfl, hB1⟩; have o1 := Lib.hid (((Own.refl v W0).below (below_drewN (Below.refl _ _) 1)).below hB1); have r1 := Lib.hid ((R0.out.keep (below_drewN (Below.refl _ _) 1)).keep hB1); simp only [tkv, mkT])
            | ((with_reducible refine step_app_toks (o := ⟨some 28, _, _, _, _, _⟩) ?_ ?_ ?_ ?_ B v L ?_ ?_ ?_ (tksOf [mkT [40]]) ?_ ?_ ?_ ?_ ?_ ?_); (rfl); (rotate_left 2); (rfl); (rfl); (exact r1.out.keep (alloc_at _ _)); (rotate_left 1); (rfl); (exact lit_toks w1 [mkT [40]] w1.heap.size rfl 1 rfl); (rw [tksOf_len]; exact Nat.zero_lt_succ _); (rw [tksOf_len, List.length_singleton]; omega); (have := o1.out.size; have := (alloc_at w1 (.cells (flat4 (tksOf [mkT [40]])).toArray 71)).size; exact Nat.le_trans hBW (Nat.le_trans o1.out.size this)); intro y2 w2 hY2 hO2; have o2 := Lib.hid ((o1.out.below (alloc_at w1 _)).trans hO2); have r2 := Lib.hid hY2; clear hY2 hO2)
            | (go_at_call 48; (with_reducible refine (c2.out w2 y2 o2.out r2.out).mono ?_); rintro e w3 ⟨y3, rfl, hY3, hO3⟩; have o3 := Lib.hid (o2.out.trans hO3); have r3 := Lib.hid hY3; clear hY3 hO3))
        all_goals
          go_wp2_with fail
          go_meet
          case rel => exact ⟨r3, o3⟩
      case rest =>
        obtain ⟨hX3, hO3⟩ := hcut
        clear c2 hX' y0 y1 y2 y3 y4 y5 hr5
        go_wp2_with fail
        refine (cM.out [41] _).mono ?_; rintro e w1 ⟨rfl, hB1⟩
        have hal := alloc_at w1 (.cells (flat4 (tksOf [mkT [41]])).toArray 71)
        have O1 := Lib.hid ((hO3.out.below hB1).below hal)
        have X1 := Lib.hid ((hX3.out.keep hB1).keep hal)
        have hBw2 : B ≤ (w1.alloc (.cells (flat4 (tksOf [mkT [41]])).toArray 71)).heap.size := by have := O1.out.size; omega
        have M1 := Lib.hid (lit_toks w1 [mkT [41]] w1.heap.size rfl 1 rfl)
        clear hX3 hO3 hB1 hal
        simp only [tkv, mkT]
        go_wp2_with (at_builtin; refine wpList_app_toks rfl (.tmp 31) (.tmp 33) rfl B u0 ((L ++ tksOf [mkT [40]]) ++ tksOf ET) rfl X1.out _ (tksOf [mkT [41]]) rfl M1.out (by rw [tksOf_len]; exact Nat.zero_lt_succ _) (by simp only [List.length_append, tksOf_len, List.length_singleton]; omega) hBw2 ?_; intro v3 w3 hX3 hO3; refine Hid.out ?_)
        refine Lib.hid ?_
        rw [hend.out] at hX3
        have hf := Lib.hid (hfin.out v3 w3 _ rfl hX3 (O0.out.trans (O1.out.trans hO3)))
        clear hX3 hO3 X1 O1 M1
        go_wp2_with fail
        go_ret
        exact hf.out
end Go.Proofs.YtjmipikahaoblaaGreatDoor.Syn
namespace Go.Proofs.YtjmipikahaoblaaGreatDoor.Syn
open Go.RowKit Go.Lib Go.Proofs.YtjmipikahaoblaaGreatDoor.Bas Go.Proofs.YtjmipikahaoblaaGreatDoor.Cal Go.Proofs.YtjmipikahaoblaaGreatDoor.Lx Go.Proofs.YtjmipikahaoblaaGreatDoor.Sc
set_option linter.unusedVariables false

def preA (o : Opr) (d : Nd) : List Tok := if o.nm = true then [nmT d.nm] else []
def preB (o : Opr) (d : Nd) : List Tok := if o.w ≠ [] ∧ o.mr = false then [nmT o.w] else []
def preC (o : Opr) (d : Nd) : List Tok := if o.ls = true then mkT [40] :: listT true d.ws ++ [mkT [41]] else if o.rg = true then [noT d.lo, nmT wTo, noT d.hi] else []
/-- The tokens of a node: what comes ahead of its arguments, and these. -/
theorem ex_parts (d : Nd) (F : Fo) (k : Nat) (hk : d.op = k) (h1 : 1 ≤ k ∧ k ≤ 8) (hn : nodeB d F.len = true) : exT ⟨d, F⟩ = ((preA (opr k) d ++ preB (opr k) d) ++ preC (opr k) d) ++ argsT d.op true F := by
  show nodeT d (argsT d.op true F) = _
  obtain ⟨op, nm, ws, lo, hi⟩ := d
  simp only at hk
  subst hk
  have hz : k ≤ 5 → F = .nil := fun h5 => by
    unfold nodeB at hn
    simp only [Bool.and_eq_true] at hn
    have h2 := hn.2
    rw [if_neg (show ¬ ((k : Int) = 6) by omega), if_neg (show ¬ ((k : Int) = 7 ∨ (k : Int) = 8) by omega)] at h2
    have h3 := of_decide_eq_true h2
    cases F with
    | nil => rfl
    | cons a b c => rw [Fo.len] at h3; omega
  rcases (show k = 1 ∨ k = 2 ∨ k = 3 ∨ k = 4 ∨ k = 5 ∨ k = 6 ∨ k = 7 ∨ k = 8 by omega) with rfl | rfl | rfl | rfl | rfl | rfl | rfl | rfl
  · rw [hz (by omega)]; rfl
  · rw [hz (by omega)]; rfl
  · rw [hz (by omega)]; rfl
  · rw [hz (by omega)]
    show [nmT nm, nmT wIn, mkT [40]] ++ listT true ws ++ [mkT [41]] = (([nmT nm] ++ [nmT wIn]) ++ (mkT [40] :: listT true ws ++ [mkT [41]])) ++ []
    simp
  · rw [hz (by omega)]; rfl
  · rfl
  · rfl
  · rfl
theorem kids_word (d : Nd) (n k : Nat) (hk : d.op = k) (h1 : 1 ≤ k ∧ k ≤ 8) (hn : nodeB d n = true) (h2 : 2 ≤ n) : (opr k).w = wordOf d.op := by
  unfold nodeB at hn
  simp only [Bool.and_eq_true] at hn
  have h3 := hn.2
  rw [hk] at h3 ⊢
  by_cases h6 : k = 6
  · subst h6
    rw [if_pos (show ((6 : Nat) : Int) = 6 from rfl)] at h3
    have := of_decide_eq_true h3
    omega
  · rw [if_neg (show ¬ ((k : Int) = 6) by omega)] at h3
    by_cases h7 : k = 7 ∨ k = 8
    · rcases h7 with rfl | rfl <;> rfl
    · rw [if_neg (show ¬ ((k : Int) = 7 ∨ (k : Int) = 8) by omega)] at h3
      have := of_decide_eq_true h3
      omega
theorem ws_some (d : Nd) (n k : Nat) (hk : d.op = k) (h1 : 1 ≤ k ∧ k ≤ 8) (hn : nodeB d n = true) (hl : (opr k).ls = true) : 1 ≤ d.ws.length ∧ d.ws.length ≤ 12 := by
  have h4 : k = 4 := by
    rcases (show k = 1 ∨ k = 2 ∨ k = 3 ∨ k = 4 ∨ k = 5 ∨ k = 6 ∨ k = 7 ∨ k = 8 by omega) with rfl | rfl | rfl | rfl | rfl | rfl | rfl | rfl
    · cases hl
    · cases hl
    · cases hl
    · rfl
    · cases hl
    · cases hl
    · cases hl
    · cases hl
  unfold nodeB at hn
  simp only [Bool.and_eq_true] at hn
  have h3 := hn.1.1.2
  rw [if_pos (by rw [hk, h4]; rfl)] at h3
  simp only [Bool.and_eq_true, decide_eq_true_eq] at h3
  exact h3.1.1
theorem nm_empty2 (nm : List UInt8) : (tx nm).toList.isEmpty = decide (nm = []) := by
  rw [toList_bl, bl_tx]
  cases nm <;> simp
theorem args_sep (op : Int) (F : Fo) (j : Nat) (hj : j < F.len) : ∃ sep : List Tok, (j = 0 → sep = []) ∧ (j ≠ 0 → sep = [nmT (wordOf op)]) ∧ argsT op true (F.take (j + 1)) = argsT op true (F.take j) ++ (sep ++ argT op (F.get j).d (F.get j).kids) :=
  ⟨if true = true ∧ j = 0 then [] else [nmT (wordOf op)], fun h => if_pos ⟨rfl, h⟩, fun h => if_neg (fun x => h x.2), args_take op F true j hj⟩
theorem args_mono (op : Int) (F : Fo) : ∀ (m j : Nat), j + m = F.len → (argsT op true (F.take j)).length ≤ (argsT op true F).length := by
  intro m
  induction m with
  | zero => intro j hj; rw [show j = F.len by omega, Fo.take_len]; exact Nat.le_refl _
  | succ m ih =>
    intro j hj
    have h1 := ih (j + 1) (by omega)
    rw [args_take op F true j (by omega), List.length_append] at h1
    omega
theorem kids_len (op : Int) (F : Fo) : F.len ≤ (argsT op true F).length + 1 := by
  by_cases h : 1 ≤ F.len
  · cases F with
    | nil => rw [Fo.len]; omega
    | cons d k r =>
      have h1 := argT_pos op d k (.cons d k r)
      rw [args_true op _ h, List.length_cons] at h1
      exact h1
  · omega
theorem OAt6.own {v x : Value} {w w' : World} {b : Nat} {o : Opr} (h : OAt6 w b o) (hO : Own v w x w') (hb : v.ownBlock ≠ some b) : OAt6 w' b o := by
  obtain ⟨h0, h1, h2, h3, h4, h5, h6⟩ := h
  have e := hO.g.block b h0 (fun e => hb e.symm)
  exact ⟨Nat.lt_of_lt_of_le h0 hO.size, cell_same h1 fun _ => e, cell_same h2 fun _ => e, cell_same h3 fun _ => e, cell_same h4 fun _ => e, cell_same h5 fun _ => e, cell_same h6 fun _ => e⟩
set_option maxRecDepth 8000 in
set_option maxHeartbeats 16000000 in
theorem wr_step (n : Nat) (hA : ArgOk n) : WrOk (n + 1) := by
  intro e x w B v L hn hE hx hR hl hB hO hg
  obtain ⟨u, a, rfl, hu, hF⟩ := hE
  have hop := ex_op hx
  obtain ⟨k, hk⟩ : ∃ k : Nat, e.d.op = k := ⟨e.d.op.toNat, by omega⟩
  have hk1 : 1 ≤ k ∧ k ≤ 8 := by omega
  have hxb := hx
  unfold exB at hxb
  rw [Bool.and_eq_true] at hxb
  obtain ⟨hnode, hnodes⟩ := hxb
  have hex : exT e = ((preA (opr k) e.d ++ preB (opr k) e.d) ++ preC (opr k) e.d) ++ argsT e.d.op true e.kids := ex_parts e.d e.kids k hk hk1 hnode
  have al := alloc_at w (xo e.d u a)
  have X0 := Lib.hid (XAt.new w e.d u a)
  have hb0v : v.ownBlock ≠ some w.heap.size := fun e => by have := (hR.block _ e).2; omega
  have R0 := Lib.hid (hR.keep al)
  have hO0 := hO.keep al
  have O0 := Lib.hid (Own.of_below v al)
  have hrow := hO0 k (by omega)
  have hfr := Lib.hid (fun (W : World) (y : Value) (h : Own v w y W) => (show Below B w W from h.blk (fun g hg => (hR.block g hg).1) hB))
  have hF0 := Lib.hid (fun (W : World) (y : Value) (h : Own v w y W) => hF.frame (T := fun b => b < B) fun b hb hl => ⟨hb, (hfr.out W y h).block b hb⟩)
  have hu0 := Lib.hid (fun (W : World) (y : Value) (h : Own v w y W) => hu.frame (T := fun b => b < B) fun b hb hl => ⟨hb, (hfr.out W y h).block b hb⟩)
  have hOp0 := Lib.hid (fun (W : World) (y : Value) (h : Own v w y W) => (show OpsAt W from hO.block ((hfr.out W y h).block _ hg)))
  have hT := Lib.hid (fun j (hj : j < e.kids.len) => args_sep e.d.op e.kids j hj)
  have hG := Lib.hid (show ∀ j, j < e.kids.len → (e.kids.get j).size ≤ n from fun j hj => by have := Fo.size_get_le e.kids j hj; unfold Ex.size at hn; omega)
  have hGx := Lib.hid (show ∀ j, j < e.kids.len → exB (e.kids.get j) = true from fun j hj => (Fo.nodes_get e.kids).1 hnodes j hj)
  have hwd := Lib.hid (show ∀ j, 0 < j → j < e.kids.len → (opr k).w = wordOf e.d.op from fun j h0 hj => kids_word e.d e.kids.len k hk hk1 hnode (by omega))
  have hws := Lib.hid (show (opr k).ls = true → 1 ≤ e.d.ws.length ∧ e.d.ws.length ≤ 12 from fun h => ws_some e.d e.kids.len k hk hk1 hnode h)
  have hE := Lib.hid (show ∀ j, j = e.kids.len → argsT e.d.op true (e.kids.take j) = argsT e.d.op true e.kids from fun j hj => by rw [hj, Fo.take_len])
  have hLa := Lib.hid (show ∀ j, j < e.kids.len → (argsT e.d.op true (e.kids.take (j + 1))).length ≤ (argsT e.d.op true e.kids).length from fun j hj => args_mono e.d.op e.kids (e.kids.len - (j + 1)) (j + 1) (by omega))
  have hkl := kids_len e.d.op e.kids
  have hlp : L.length + (preA (opr k) e.d).length + (preB (opr k) e.d).length + (preC (opr k) e.d).length + (argsT e.d.op true e.kids).length ≤ 100000 := by
    rw [hex] at hl
    simp only [List.length_append] at hl
    omega
  have hlk : e.kids.len ≤ 1000000 := by omega
  have hA' := Lib.hid (fun (j : Nat) (hj : j < e.kids.len) (y x : Value) (W : World) (M : List Tk) (h1 : Own v w y W) (h2 : TRow B W y M) (h3 : M.length + (argT e.d.op (e.kids.get j).d (e.kids.get j).kids).length ≤ 100000) (h4 : ExS (fun b => b < B) W x (e.kids.get j)) => hA (e.kids.get j) e.d.op x W B y M (hG.out j hj) h4 (hGx.out j hj) h2 h3 (by have := h1.size; omega) (hOp0.out W y h1) hg)
  have hfin := Lib.hid (fun (y : Value) (W : World) (h : TRow B W y (L ++ tksOf (((preA (opr k) e.d ++ preB (opr k) e.d) ++ preC (opr k) e.d) ++ argsT e.d.op true e.kids))) (hO : Own v w y W) => (show ToksO B v (L ++ tksOf (exT e)) w (.returned y) W from ⟨y, rfl, by rw [hex]; exact h, hO⟩))
  have hmr := opr_mr k hk1
  clear hex hl hkl hn hA hx hnode hnodes hO hR hO0 hmr hop
  obtain ⟨pu, cu, rfl, _, _⟩ := hu
  obtain ⟨p, c, rfl, _, _⟩ := hF
  have cN := Lib.hid (fun s w => wordtk_any s w)
  unfold exV
  have hkd := Lib.hid hk
  generalize exT e = ET at *
  generalize e.kids = F at *
  generalize e.d = d at *
  obtain ⟨dop, dnm, dws, dlo, dhi⟩ := d
  simp only at hk
  subst hk
  simp only at *
  have hpa1 := Lib.hid (show (opr k).nm = true → preA (opr k) ⟨(k : Int), dnm, dws, dlo, dhi⟩ = [nmT dnm] from fun h => by unfold preA; rw [if_pos h])
  have hpa0 := Lib.hid (show (opr k).nm = false → preA (opr k) ⟨(k : Int), dnm, dws, dlo, dhi⟩ = [] from fun h => by unfold preA; rw [if_neg (by rw [h]; simp)])
  have hpb1 := Lib.hid (show (opr k).w ≠ [] → (opr k).mr = false → preB (opr k) ⟨(k : Int), dnm, dws, dlo, dhi⟩ = [nmT (opr k).w] from fun h h2 => by unfold preB; rw [if_pos ⟨h, h2⟩])
  have hpb0 := Lib.hid (show ¬ ((opr k).w ≠ [] ∧ (opr k).mr = false) → preB (opr k) ⟨(k : Int), dnm, dws, dlo, dhi⟩ = [] from fun h => by unfold preB; rw [if_neg h])
  have hpc1 := Lib.hid (show (opr k).ls = true → preC (opr k) ⟨(k : Int), dnm, dws, dlo, dhi⟩ = mkT [40] :: listT true dws ++ [mkT [41]] from fun h => by unfold preC; rw [if_pos h])
  have hpc2 := Lib.hid (show (opr k).ls = false → (opr k).rg = true → preC (opr k) ⟨(k : Int), dnm, dws, dlo, dhi⟩ = [noT dlo, nmT wTo, noT dhi] from fun h h2 => by unfold preC; rw [if_neg (by rw [h]; simp), if_pos h2])
  have hpc0 := Lib.hid (show (opr k).ls = false → (opr k).rg = false → preC (opr k) ⟨(k : Int), dnm, dws, dlo, dhi⟩ = [] from fun h h2 => by unfold preC; rw [if_neg (by rw [h]; simp), if_neg (by rw [h2]; simp)])
  generalize preA (opr k) ⟨(k : Int), dnm, dws, dlo, dhi⟩ = PA at *
  generalize preB (opr k) ⟨(k : Int), dnm, dws, dlo, dhi⟩ = PB at *
  generalize preC (opr k) ⟨(k : Int), dnm, dws, dlo, dhi⟩ = PC at *
  generalize opr k = o at *
  obtain ⟨ow, onm, ols, org, olt, omr⟩ := o
  simp only at *
  generalize hm : F.len = m at *
  have hm' := Lib.hid hm
  clear hm
  generalize hnw : dws.length = nw at *
  have hnw' := Lib.hid hnw
  clear hnw
  have he := nm_empty2 ow
  obtain ⟨r0, r1, r2, r3, r4, r5⟩ := hrow
  go_enter Tryz.func48, Tryz.ntmps48
  go_upto_region 1 with fail
  obtain ⟨b0, hb0⟩ : ∃ b, w.heap.size = b := ⟨_, rfl⟩
  rw [hb0] at X0 hb0v ⊢
  have hbB : B ≤ b0 := by omega
  clear hb0
  generalize w.alloc (xo ⟨(k : Int), dnm, dws, dlo, dhi⟩ (.slice pu nw cu) (.slice p m c)) = W0 at *
  obtain ⟨_, y0, y1, y2, y3, y4, y5⟩ := X0.out
  simp only at y0 y1 y3 y4
  go_upto_region 2 with fail
  clear r0 r1 r2 r3 r4 r5 y0 y1 y2 y3 y4 y5
  have al := alloc_at W0 (opO ⟨ow, onm, ols, org, olt, omr⟩)
  have O3 := Lib.hid (O0.out.below al)
  have K3 := Lib.hid (OAt6.new W0 ⟨ow, onm, ols, org, olt, omr⟩)
  have X3 := Lib.hid (X0.out.keep al)
  have R3 := Lib.hid (R0.out.keep al)
  have hb3v : v.ownBlock ≠ some W0.heap.size := fun e => by have := (R0.out.block _ e).2; omega
  obtain ⟨b3, hb3⟩ : ∃ b, W0.heap.size = b := ⟨_, rfl⟩
  have hx0l : b0 < W0.heap.size := X0.out.1
  rw [hb3] at K3 hb3v hx0l ⊢
  clear hb3 al O0 X0 R0
  generalize W0.alloc (opO ⟨ow, onm, ols, org, olt, omr⟩) = W3 at *
  have hBW : B ≤ W3.heap.size := by have := X3.out.1; omega
  obtain ⟨_, z0, z1, z2, z3, z4, z5⟩ := K3.out
  obtain ⟨_, y0, y1, y2, y3, y4, y5⟩ := X3.out
  simp only at y0 y1 y3 y4 z0 z1 z2 z3 z4 z5
  go_upto_if 13 with (fail)
  go_cut [0] (fun x0 wx => Hid (TRow B wx x0 (L ++ tksOf PA)) ∧ Hid (Own v W3 x0 wx))
  case first =>
    cases onm with
    | false =>
      have hR := Lib.hid (show TRow B W3 v (L ++ tksOf PA) from by rw [hpa0.out rfl]; show TRow B W3 v (L ++ []); rw [List.append_nil]; exact R3.out)
      go_wp2_with fail
      go_meet
      case rel => exact ⟨hR, Lib.hid (Own.refl _ _)⟩
    | true =>
      have hP := Lib.hid (hpa1.out rfl)
      go_wp2_with fail
      refine (cN.out dnm W3).mono ?_; rintro e w1 ⟨rfl, hB1⟩
      have hal := alloc_at w1 (.cells (flat4 (tksOf [nmT dnm])).toArray 71)
      have Oa := Lib.hid ((Own.of_below v hB1).below hal)
      have Ra := Lib.hid ((R3.out.keep hB1).keep hal)
      have hBa : B ≤ (w1.alloc (.cells (flat4 (tksOf [nmT dnm])).toArray 71)).heap.size := by have := Oa.out.size; omega
      have Ma := Lib.hid (lit_toks w1 [nmT dnm] w1.heap.size rfl 1 rfl)
      clear hB1 hal y0 y1 y2 y3 y4 y5 z0 z1 z2 z3 z4 z5
      simp only [tkv, nmT]
      go_wp2_with (at_builtin; refine wpList_app_toks rfl (.tmp 14) (.tmp 18) rfl B v (L) rfl Ra.out _ (tksOf [nmT dnm]) rfl Ma.out (by rw [tksOf_len]; exact Nat.zero_lt_succ _) (by simp only [tksOf_len, List.length_singleton]; omega) hBa ?_; intro v3 w3 hX3 hO3; refine Hid.out ?_)
      refine Lib.hid ?_
      rw [← hP.out] at hX3
      have R4 := Lib.hid hX3
      have O4 := Lib.hid (Oa.out.trans hO3)
      clear hX3 hO3 Oa Ra Ma
      go_wp2_with fail
      go_meet
      case rel => exact ⟨R4, O4⟩
  case rest =>
    clear y0 y1 y2 y3 y4 y5 z0 z1 z2 z3 z4 z5
    obtain ⟨R4, O4⟩ := hcut
    clear R3 hpa1 hpa0
    have hBc : B ≤ wc.heap.size := by have := O4.out.size; omega
    obtain ⟨_, z0, z1, z2, z3, z4, z5⟩ := K3.out.own O4.out hb3v
    obtain ⟨_, y0, y1, y2, y3, y4, y5⟩ := X3.out.own O4.out hb0v
    simp only at y0 y1 y3 y4 z0 z1 z2 z3 z4 z5
    generalize wc = W4 at *
    generalize u0 = v4 at *
    go_upto_region 4 with fail
    go_cut [27] (fun x27 wx => x27 = .bool (!decide (ow = []) && !omr) ∧ wx = W4)
    case first =>
      by_cases how : ow = []
      · have e1 := Lib.hid (decide_eq_true how)
        rw [e1.out] at he
        clear how
        go_wp2_with fail
        go_meet
        case rel => exact ⟨by rw [e1.out]; rfl, rfl⟩
      · have e1 := Lib.hid (decide_eq_false how)
        rw [e1.out] at he
        clear how
        cases omr with
        | true =>
          go_wp2_with fail
          go_meet
          case rel => exact ⟨by rw [e1.out]; rfl, rfl⟩
        | false =>
          go_wp2_with fail
          go_meet
          case rel => exact ⟨by rw [e1.out]; rfl, rfl⟩
    case rest =>
    obtain ⟨rfl, hwc⟩ := hcut
    subst hwc
    go_upto_if 27 with (fail)
    go_cut [0] (fun x0 wx => Hid (TRow B wx x0 ((L ++ tksOf PA) ++ tksOf PB)) ∧ Hid (Own v4 wc x0 wx))
    case first =>
      by_cases how : (ow ≠ [] ∧ omr = false)
      · have hP := Lib.hid (hpb1.out how.1 how.2)
        have ht : (!decide (ow = []) && !omr) = true := by rw [decide_eq_false how.1, how.2]; rfl
        rw [ht]
        clear how ht
        go_wp2_with fail
        refine (cN.out ow wc).mono ?_; rintro e w1 ⟨rfl, hB1⟩
        have hal := alloc_at w1 (.cells (flat4 (tksOf [nmT ow])).toArray 71)
        have Oa := Lib.hid ((Own.of_below v4 hB1).below hal)
        have Ra := Lib.hid ((R4.out.keep hB1).keep hal)
        have hBa : B ≤ (w1.alloc (.cells (flat4 (tksOf [nmT ow])).toArray 71)).heap.size := by have := Oa.out.size; omega
        have Ma := Lib.hid (lit_toks w1 [nmT ow] w1.heap.size rfl 1 rfl)
        clear hB1 hal y0 y1 y2 y3 y4 y5 z0 z1 z2 z3 z4 z5
        simp only [tkv, nmT]
        go_wp2_with (at_builtin; refine wpList_app_toks rfl (.tmp 28) (.tmp 32) rfl B v4 (L ++ tksOf PA) rfl Ra.out _ (tksOf [nmT ow]) rfl Ma.out (by rw [tksOf_len]; exact Nat.zero_lt_succ _) (by simp only [List.length_append, tksOf_len, List.length_singleton]; omega) hBa ?_; intro v3 w3 hX3 hO3; refine Hid.out ?_)
        refine Lib.hid ?_
        rw [← hP.out] at hX3
        have R5 := Lib.hid hX3
        have O5 := Lib.hid (Oa.out.trans hO3)
        clear hX3 hO3 Oa Ra Ma
        go_wp2_with fail
        go_meet
        case rel => exact ⟨R5, O5⟩
      · have hP := Lib.hid (hpb0.out how)
        have ht : (!decide (ow = []) && !omr) = false := by
          by_cases h1 : ow = []
          · rw [decide_eq_true h1]; rfl
          · cases omr with
            | true => simp
            | false => exact absurd ⟨h1, rfl⟩ how
        rw [ht]
        have hR := Lib.hid (show TRow B wc v4 ((L ++ tksOf PA) ++ tksOf PB) from by rw [hP.out]; show TRow B wc v4 ((L ++ tksOf PA) ++ []); rw [List.append_nil]; exact R4.out)
        clear how ht
        go_wp2_with fail
        go_meet
        case rel => exact ⟨hR, Lib.hid (Own.refl _ _)⟩
    case rest =>
      clear y0 y1 y2 y3 y4 y5 z0 z1 z2 z3 z4 z5
      obtain ⟨R5, O5'⟩ := hcut
      have O5 := Lib.hid (O4.out.trans O5'.out)
      clear R4 O4 O5' hpb1 hpb0 he hBc
      have hBc : B ≤ wc.heap.size := by have := O5.out.size; omega
      obtain ⟨_, z0, z1, z2, z3, z4, z5⟩ := K3.out.own O5.out hb3v
      obtain ⟨_, y0, y1, y2, y3, y4, y5⟩ := X3.out.own O5.out hb0v
      simp only at y0 y1 y3 y4 z0 z1 z2 z3 z4 z5
      generalize wc = W5 at *
      generalize u0 = v5 at *
      go_upto_block 0 with (fail)
      go_cut [0] (fun x0 wx => Hid (TRow B wx x0 (((L ++ tksOf PA) ++ tksOf PB) ++ tksOf PC)) ∧ Hid (Own v5 W5 x0 wx))
      case first =>
        cases ols with
        | true =>
          have hP := Lib.hid (hpc1.out rfl)
          have hw12 := hws.out rfl
          have hpcl : PC.length + 1 = 2 * nw + 2 := by
            have h1 := list_len1 dws (by rw [hnw'.out]; exact hw12.1)
            rw [hnw'.out] at h1
            rw [hP.out, List.length_append, List.length_cons, List.length_singleton]
            omega
          have hsw := hu0.out W5 v5 (O3.out.trans O5.out)
          have cW := Lib.hid (pwwords_any v5 ((L ++ tksOf PA) ++ tksOf PB) _ dws W5 B R5.out hsw (by rw [hnw'.out]; omega) (by rw [hnw'.out]; simp only [List.length_append, tksOf_len]; omega) hBc)
          rw [← hP.out] at cW
          clear hsw hw12 hpcl
          go_wp2_with fail
          refine cW.out.mono ?_; rintro e w1 ⟨y, rfl, hY, hO1⟩
          have R6 := Lib.hid hY
          have O6 := Lib.hid hO1
          clear hY hO1 cW y0 y1 y2 y3 y4 y5 z0 z1 z2 z3 z4 z5
          go_wp2_with fail
          go_meet
          case rel => exact ⟨R6, O6⟩
        | false =>
          cases org with
          | false =>
            have hP := Lib.hid (hpc0.out rfl rfl)
            have hR := Lib.hid (show TRow B W5 v5 (((L ++ tksOf PA) ++ tksOf PB) ++ tksOf PC) from by rw [hP.out]; show TRow B W5 v5 (((L ++ tksOf PA) ++ tksOf PB) ++ []); rw [List.append_nil]; exact R5.out)
            go_wp2_with fail
            go_meet
            case rel => exact ⟨hR, Lib.hid (Own.refl _ _)⟩
          | true =>
            have hP := Lib.hid (hpc2.out rfl rfl)
            have cLo := Lib.hid (fun w => numtk_any dlo w)
            have cHi := Lib.hid (fun w => numtk_any dhi w)
            have cTo := Lib.hid (fun w => (show Calls Tryz.prog 69 #[.string { data := #[116, 111] }] w (TokR (nmT wTo) w) from wordtk_any wTo w))
            have hcel := Lib.hid (fun (W : World) (hb : Below W5.heap.size W5 W) => (show W.cell? ⟨b0, 3, none⟩ = some (.int .i64 dlo) ∧ W.cell? ⟨b0, 4, none⟩ = some (.int .i64 dhi) from ⟨cell_same y3 (hb.block b0), cell_same y4 (hb.block b0)⟩))
            have hown := Lib.hid (fun (W W' : World) (y : Value) (h : Own v5 W5 y W) => (show W.cell? ⟨b0, 3, none⟩ = some (.int .i64 dlo) ∧ W.cell? ⟨b0, 4, none⟩ = some (.int .i64 dhi) from by
              have h1 := (X3.out.own (O5.out.trans h) hb0v)
              exact ⟨h1.2.2.2.2.1, h1.2.2.2.2.2.1⟩))
            have hlq : ((L ++ tksOf PA) ++ tksOf PB).length + 3 ≤ 100000 := by
              have h1 : PC.length = 3 := by rw [hP.out]; rfl
              simp only [List.length_append, tksOf_len]
              omega
            clear y0 y1 y2 y5 z0 z1 z4 z5
            go_wp2_with fail
            go_region_held3 (fun w' => w'.cell? ⟨b0, 3, none⟩ = some (.int .i64 dlo) ∧ w'.cell? ⟨b0, 4, none⟩ = some (.int .i64 dhi))
              ((first
                | exact hcel.out _ (below_drewN (Below.refl _ _) 1)
                | exact hown.out _ wD _ oE.out
                | exact hcel.out _ (trans_b hzC.out (alloc_at _ _))
                | exact hcel.out _ hzC.out
                | exact hcel.out _ hzB.out
                | exact hcel.out _ hzA.out))
              (first
                | (go_at_call 71; (with_reducible refine (cLo.out _).mono ?_); rintro e wA ⟨rfl, hB1⟩; have hzA := Lib.hid (trans_b (below_drewN (Below.refl W5.heap.size W5) 1) hB1); simp only [tkv, noT])
                | (go_at_call 69; (with_reducible refine (cTo.out _).mono ?_); rintro e wB ⟨rfl, hB2⟩; have hzB := Lib.hid (trans_b hzA.out hB2); simp only [tkv, nmT])
                | (go_at_call 71; (with_reducible refine (cHi.out _).mono ?_); rintro e wC ⟨rfl, hB3⟩; have hzC := Lib.hid (trans_b hzB.out hB3); simp only [tkv, noT])
                | ((with_reducible refine step_app_toks (o := ⟨some 53, _, _, _, _, _⟩) ?_ ?_ ?_ ?_ B v5 ((L ++ tksOf PA) ++ tksOf PB) ?_ ?_ ?_ (tksOf [noT dlo, nmT wTo, noT dhi]) ?_ ?_ ?_ ?_ ?_ ?_); (rfl); (rotate_left 2); (rfl); (rfl); (exact R5.out.keep (trans_b hzC.out (alloc_at _ _))); (rotate_left 1); (rfl); (exact lit_toks wC [noT dlo, nmT wTo, noT dhi] wC.heap.size rfl 3 rfl); (rw [tksOf_len]; exact Nat.zero_lt_succ _); (rw [tksOf_len]; exact Nat.le_trans hlq (by decide)); (exact Nat.le_trans hBc (trans_b hzC.out (alloc_at _ _)).size); intro yD wD hYD hOD; have oE := Lib.hid (((Own.of_below v5 hzC.out).below (alloc_at wC _)).trans hOD); have rE := Lib.hid hYD; clear hYD hOD))
            all_goals
              have R6 := Lib.hid (show TRow B wD yD (((L ++ tksOf PA) ++ tksOf PB) ++ tksOf PC) from by rw [hP.out]; exact rE.out)
              clear rE
              go_wp2_with fail
              go_meet
              case rel => exact ⟨R6, oE⟩
      case rest =>
        clear y0 y1 y2 y3 y4 y5 z0 z1 z2 z3 z4 z5
        obtain ⟨R6, O6'⟩ := hcut
        have O6 := Lib.hid (O5.out.trans O6'.out)
        clear R5 O5 O6' hpc1 hpc2 hpc0 hBc hu0 hws
        obtain ⟨_, y0, y1, y2, y3, y4, y5⟩ := X3.out.own O6.out hb0v
        simp only at y0 y1 y3 y4
        have hz := Lib.hid (show ((L ++ tksOf PA) ++ tksOf PB) ++ tksOf PC = L ++ tksOf ((PA ++ PB) ++ PC) from by rw [tksOf_app, tksOf_app]; simp only [List.append_assoc])
        rw [hz.out] at R6
        have hPl : L.length + ((PA ++ PB) ++ PC).length + (argsT (k : Int) true F).length ≤ 100000 := by simp only [List.length_append]; omega
        have hfin2 := Lib.hid (fun (y : Value) (W : World) (h : TRow B W y (L ++ tksOf (((PA ++ PB) ++ PC) ++ argsT (k : Int) true F))) (hO : Own v W3 y W) => hfin.out y W h (O3.out.trans hO))
        clear hz hlp hfin
        generalize (PA ++ PB) ++ PC = PP at *
        generalize wc = W6 at *
        generalize u0 = v6 at *
        go_wp2_with fail
        go_loopw [0, 57] (fun x0 x9 wr => ∃ (j : Nat), j ≤ m ∧ x9 = .int .i64 j ∧ Hid (TRow B wr x0 (L ++ tksOf (PP ++ argsT (k : Int) true (F.take j)))) ∧ Hid (Own v W3 x0 wr)) (fun _ x9 _ => m - (RowKit.intOf x9).toNat)
        case atStart => exact ⟨0, Nat.zero_le _, rfl, Lib.hid (by show TRow B W6 v6 (L ++ tksOf (PP ++ [])); rw [List.append_nil]; exact R6.out), O6⟩
        case round =>
          obtain ⟨j, hj, rfl, hS, hO⟩ := hrel
          clear y0 y1 y2 y3 y4 y5
          by_cases hlt : j < m
          · obtain ⟨b, o', c', hv, _, hbl, ue, ae, q0, q1, q2, q3, q4, q5, e1, e2⟩ := (hF0.out wr _ (O3.out.trans hO.out)).elem j (by rw [hm'.out]; exact hlt)
            obtain ⟨rfl, hmm, rfl⟩ := Value.slice.inj hv
            clear hmm
            have hk64 : IntKind.i64.wrap ((j : Int) + 1) = (j : Int) + 1 := IntWalk.i64_in _ (by omega)
            have hx := Lib.hid (show ExS (fun b => b < B) wr (exV (F.get j).d ue ae) (F.get j) from ⟨ue, ae, rfl, e1, e2⟩)
            obtain ⟨sep, hsep0, hsepn', hT1⟩ := hT.out j hlt
            have hLa1 := hLa.out j hlt
            have hsepn : j ≠ 0 → sep = [nmT ow] := fun h => by rw [hsepn' h, hwd.out j (by omega) hlt]
            have hsl : (argsT (k : Int) true (F.take (j + 1))).length = (argsT (k : Int) true (F.take j)).length + (sep.length + (argT (k : Int) (F.get j).d (F.get j).kids).length) := by rw [hT1, List.length_append, List.length_append]
            have hl7 : (L ++ tksOf (PP ++ argsT (k : Int) true (F.take j))).length + sep.length + (argT (k : Int) (F.get j).d (F.get j).kids).length ≤ 100000 := by
              simp only [List.length_append, tksOf_len] at hPl ⊢
              omega
            have hnext := Lib.hid (show ((L ++ tksOf (PP ++ argsT (k : Int) true (F.take j))) ++ tksOf sep) ++ tksOf (argT (k : Int) (F.get j).d (F.get j).kids) = L ++ tksOf (PP ++ argsT (k : Int) true (F.take (j + 1))) from by
              rw [hT1]; simp only [tksOf_app, List.append_assoc])
            clear hsepn' hT1 hsl hLa1
            obtain ⟨p1, k1, rfl, _, _⟩ := e1
            obtain ⟨p2, k2, rfl, _, _⟩ := e2
            clear hv
            have hal := alloc_at wr (xo (F.get j).d (.slice p1 (F.get j).d.ws.length k1) (.slice p2 (F.get j).kids.len k2))
            have G7 := Lib.hid (XAt.new wr (F.get j).d (.slice p1 (F.get j).d.ws.length k1) (.slice p2 (F.get j).kids.len k2))
            have O7 := Lib.hid (hO.out.below hal)
            have R7 := Lib.hid (hS.out.keep hal)
            have E7 := Lib.hid (hx.out.below hal)
            have hgv : u0.ownBlock ≠ some wr.heap.size := fun e => by have := (hS.out.block _ e).2; omega
            have hBw7 : B ≤ (wr.alloc (xo (F.get j).d (.slice p1 (F.get j).d.ws.length k1) (.slice p2 (F.get j).kids.len k2))).heap.size := by have := O7.out.size; omega
            have cS := Lib.hid (hA'.out j hlt)
            go_upto_region 13 with fail
            clear q0 q1 q2 q3 q4 q5 hS hO hal
            obtain ⟨b7, hb7⟩ : ∃ b, wr.heap.size = b := ⟨_, rfl⟩
            rw [hb7] at G7 hgv ⊢
            clear hb7
            generalize wr.alloc (xo (F.get j).d (.slice p1 (F.get j).d.ws.length k1) (.slice p2 (F.get j).kids.len k2)) = W7 at *
            obtain ⟨_, z0, z1, z2, z3, z4, z5⟩ := K3.out.own O7.out hb3v
            obtain ⟨_, y0, y1, y2, y3, y4, y5⟩ := X3.out.own O7.out hb0v
            simp only at y0 y1 y3 y4 z0 z1 z2 z3 z4 z5
            unfold exV at E7 cS
            generalize (F.get j).d = dj at *
            generalize (F.get j).kids.len = nj at *
            generalize dj.ws.length = wj at *
            generalize u0 = vr at *
            go_upto_if 63 with (fail)
            go_cut [0] (fun x0 wx => Hid (TRow B wx x0 ((L ++ tksOf (PP ++ argsT (k : Int) true (F.take j))) ++ tksOf sep)) ∧ Hid (Own vr W7 x0 wx))
            case first =>
              by_cases hj0 : j = 0
              · have t2 : decide (0 < j) = false := decide_eq_false (by omega)
                rw [t2]
                clear t2
                have R8 := Lib.hid (show TRow B W7 vr ((L ++ tksOf (PP ++ argsT (k : Int) true (F.take j))) ++ tksOf sep) from by rw [hsep0 hj0]; show TRow B W7 vr (_ ++ []); rw [List.append_nil]; exact R7.out)
                clear hj0 hsep0 hsepn
                go_wp2_with fail
                go_meet
                case rel => exact ⟨R8, Lib.hid (Own.refl _ _)⟩
              · have t2 : decide (0 < j) = true := decide_eq_true (by omega)
                rw [t2]
                clear t2
                have hsep1 := Lib.hid (show (L ++ tksOf (PP ++ argsT (k : Int) true (F.take j))) ++ tksOf [nmT ow] = (L ++ tksOf (PP ++ argsT (k : Int) true (F.take j))) ++ tksOf sep from by rw [hsepn hj0])
                have hll1 : (L ++ tksOf (PP ++ argsT (k : Int) true (F.take j))).length ≤ 100000 := by omega
                clear hj0 hsep0 hsepn
                go_wp2_with fail
                refine (cN.out ow W7).mono ?_; rintro e w1 ⟨rfl, hB1⟩
                have hal := alloc_at w1 (.cells (flat4 (tksOf [nmT ow])).toArray 71)
                have Oa := Lib.hid ((Own.of_below vr hB1).below hal)
                have Ra := Lib.hid ((R7.out.keep hB1).keep hal)
                have hBa : B ≤ (w1.alloc (.cells (flat4 (tksOf [nmT ow])).toArray 71)).heap.size := by have := Oa.out.size; omega
                have Ma := Lib.hid (lit_toks w1 [nmT ow] w1.heap.size rfl 1 rfl)
                clear hB1 hal y0 y1 y2 y3 y4 y5 z0 z1 z2 z3 z4 z5
                simp only [tkv, nmT]
                go_wp2_with (at_builtin; refine wpList_app_toks rfl (.tmp 64) (.tmp 68) rfl B vr (L ++ tksOf (PP ++ argsT (k : Int) true (F.take j))) rfl Ra.out _ (tksOf [nmT ow]) rfl Ma.out (by rw [tksOf_len]; exact Nat.zero_lt_succ _) (by rw [tksOf_len, List.length_singleton]; omega) hBa ?_; intro v3 w3 hX3 hO3; refine Hid.out ?_)
                refine Lib.hid ?_
                rw [hsep1.out] at hX3
                have R8 := Lib.hid hX3
                have O8 := Lib.hid (Oa.out.trans hO3)
                clear hX3 hO3 Oa Ra Ma
                go_wp2_with fail
                go_meet
                case rel => exact ⟨R8, O8⟩
            case rest =>
              clear y0 y1 y2 y3 y4 y5 z0 z1 z2 z3 z4 z5
              obtain ⟨R8, O8'⟩ := hcut
              have O8 := Lib.hid (O7.out.trans O8'.out)
              obtain ⟨_, y0, y1, y2, y3, y4, y5⟩ := X3.out.own O8.out hb0v
              simp only at y0 y1 y3 y4
              obtain ⟨_, g0, g1, g2, g3, g4, g5⟩ := G7.out.own O8'.out hgv
              have E8 := Lib.hid (E7.out.frame (T := fun b => b < B) fun b hb _ => ⟨hb, (O8'.out.blk (fun g hg => (R7.out.block g hg).1) hBw7).block b hb⟩)
              have hl8 : ((L ++ tksOf (PP ++ argsT (k : Int) true (F.take j))) ++ tksOf sep).length + (argT (k : Int) dj (F.get j).kids).length ≤ 100000 := by rw [List.length_append, tksOf_len]; exact hl7
              have cT := Lib.hid (cS.out u0 _ wc _ (O3.out.trans O8.out) R8.out hl8 E8.out)
              clear cS R7 O7 E7 G7 hsep0 hsepn hl7 hl8 hgv
              go_wp2_with fail
              refine cT.out.mono ?_; rintro e w9 ⟨y, rfl, hY, hO9⟩
              rw [hnext.out] at hY
              have R9 := Lib.hid hY
              have O9 := Lib.hid (O8.out.trans hO9)
              clear hY hO9 cT R8 O8 O8' E8 y0 y1 y2 y3 y4 y5 g0 g1 g2 g3 g4 g5
              go_wp2_with fail
              go_roundw
              case rel => exact ⟨j + 1, by omega, by go_num, R9, O9⟩
              case measure => simp [RowKit.intOf]; omega
          · have hEk := Lib.hid (hE.out j (by omega))
            have hf := Lib.hid (hfin2.out _ _ (by rw [← hEk.out]; exact hS.out) hO.out)
            go_wp2_with fail
            go_ret
            exact hf.out
theorem wr_all : ∀ n, WrOk n := by
  intro n
  induction n with
  | zero => intro e x w B v L h; have := size_pos e; omega
  | succ n ih => exact wr_step n (arg_of n ih)
end Go.Proofs.YtjmipikahaoblaaGreatDoor.Syn
namespace Go.Proofs.YtjmipikahaoblaaGreatDoor.Syn
open Go.RowKit Go.Lib Go.Proofs.YtjmipikahaoblaaGreatDoor.Bas Go.Proofs.YtjmipikahaoblaaGreatDoor.Cal Go.Proofs.YtjmipikahaoblaaGreatDoor.Lx Go.Proofs.YtjmipikahaoblaaGreatDoor.Sc Go.Proofs.YtjmipikahaoblaaGreatDoor.Dk
set_option linter.unusedVariables false

theorem tok_short {t : Tk} (h : wrE t = 0) : t.t.length ≤ 100 := by
  unfold wrE at h
  split at h
  · cases h
  · split at h
    · split at h
      · cases h
      · split at h
        · split at h
          · rename_i hw
            have := (of_decide_eq_true hw).2.1
            omega
          · cases h
        · split at h
          · rename_i hm
            unfold markB at hm
            rcases of_decide_eq_true hm with h | h | h | h | h <;> rw [h] <;> decide
          · cases h
    · split at h
      · cases h
      · rename_i hn
        have : t.t = [] := Classical.byContradiction fun h => hn h
        rw [this]; simp
set_option maxRecDepth 8000 in
set_option maxHeartbeats 4000000 in
theorem pformat_any (e : Ex) (x : Value) (w : World) (hE : EnvX w) (h : ExAt w x e) (hw : ExWf e) (hl : validB e = true → (exT e).length ≤ 100000) : Calls Tryz.prog 26 #[x] w (JoinOut (fmtV e) w) := by
  obtain ⟨u, a, rfl, hu, hF⟩ := h
  have al := alloc_at w (xo e.d u a)
  have B0 := Lib.hid al
  have X0 := Lib.hid (XAt.new w e.d u a)
  have E0 := Lib.hid ((show ExAt w (exV e.d u a) e from ⟨u, a, rfl, hu, hF⟩).below al)
  have hE0 := hE.keep al
  have cV := Lib.hid (pvalid_any e (exV e.d u a) (w.alloc (xo e.d u a)) hE0.2 E0.out hw)
  have cJ := Lib.hid (fun (W : World) (y : Value) (hB : Below w.heap.size w W) (hY : TksAt W y (tksOf (exT e))) (hok : exB e = true) (hl : (exT e).length ≤ 100000) => join_any y (tksOf (exT e)) W (hE.keep hB).1 hY (fun t ht => by have := tok_short ((ex_ok e hok).tks t ht); omega) (by rw [tksOf_len]; omega))
  have hfy := Lib.hid (show validB e = true → fmtV e = joinV (tksOf (exT e)) ∧ exB e = true from fun h => ⟨by unfold fmtV; rw [if_pos h], by unfold validB at h; rw [Bool.and_eq_true] at h; exact h.2⟩)
  have hfn := Lib.hid (show validB e = false → fmtV e = ([], 5) from fun h => by unfold fmtV; rw [if_neg (by rw [h]; simp)])
  have hsz : validB e = true → e.size ≤ 300 := fun h => by
    unfold validB at h
    simp only [Bool.and_eq_true, decide_eq_true_eq] at h
    exact h.1.1
  have cW := Lib.hid (fun (W : World) (hB : Below (w.alloc (xo e.d u a)).heap.size (w.alloc (xo e.d u a)) W) (hok : exB e = true) (hl : (exT e).length ≤ 100000) => wr_all e.size e (exV e.d u a) W W.heap.size (.slice none 0 0) [] (Nat.le_refl _) ((E0.out.below hB).mono fun _ _ hl => hl) hok (trow_nil _ _) (by simpa using hl) (Nat.le_refl _) (hE0.keep hB).2 (hE0.keep hB).2.lt)
  obtain ⟨pu, cu, rfl, _, _⟩ := hu
  obtain ⟨p, c, rfl, _, _⟩ := hF
  clear al hE0 hE hw E0 hsz
  unfold exV at cV cW ⊢
  generalize fmtV e = FV at *
  generalize e.d.ws.length = nw at *
  generalize e.kids.len = nk at *
  generalize hee : e = e' at *
  generalize e'.d = d at *
  clear hee
  cases hv : validB e' with
  | false =>
    rw [hv] at cV
    have hR := hfn.out hv
    subst hR
    clear hfy hfn cW cJ hl hv
    go_enter Tryz.func26, Tryz.ntmps26
    go_upto_region 1 with fail
    obtain ⟨b0, hb0⟩ : ∃ b, w.heap.size = b := ⟨_, rfl⟩
    rw [hb0] at X0 ⊢
    clear hb0
    generalize w.alloc (xo d (.slice pu nw cu) (.slice p nk c)) = W0 at *
    obtain ⟨_, y0, y1, y2, y3, y4, y5⟩ := X0.out
    go_wp2_with fail
    refine cV.out.mono ?_; rintro e w1 ⟨rfl, hB⟩
    have hf := Lib.hid (show JoinOut ([], 5) w (.returned (.tuple #[.string (tx []), .int .i64 5])) w1 from ⟨rfl, B0.out.trans (hB.mono B0.out.size)⟩)
    clear hB cV y0 y1 y2 y3 y4 y5 X0
    go_wp2_with fail
    go_ret2
    exact hf.out
  | true =>
    rw [hv] at cV
    obtain ⟨hR, hok⟩ := hfy.out hv
    subst hR
    have hl1 := hl hv
    clear hfy hfn hl hv
    go_enter Tryz.func26, Tryz.ntmps26
    go_upto_region 1 with fail
    obtain ⟨b0, hb0⟩ : ∃ b, w.heap.size = b := ⟨_, rfl⟩
    rw [hb0] at X0 ⊢
    clear hb0
    generalize w.alloc (xo d (.slice pu nw cu) (.slice p nk c)) = W0 at *
    obtain ⟨_, y0, y1, y2, y3, y4, y5⟩ := X0.out
    go_wp2_with fail
    refine cV.out.mono ?_; rintro e w1 ⟨rfl, hB⟩
    have X1 := Lib.hid (X0.out.keep hB)
    have B1 := Lib.hid (B0.out.trans (hB.mono B0.out.size))
    have cW1 := Lib.hid (cW.out w1 hB hok hl1)
    rw [List.nil_append] at cW1
    clear hB cV cW y0 y1 y2 y3 y4 y5 X0
    obtain ⟨_, y0, y1, y2, y3, y4, y5⟩ := X1.out
    go_wp2_with fail
    refine cW1.out.mono ?_; rintro e w2 ⟨y, rfl, hY, hO⟩
    have B2 := Lib.hid (B1.out.trans (hO.nil.mono B1.out.size))
    have cJ2 := Lib.hid (cJ.out w2 y B2.out hY.at hok hl1)
    clear hY hO cW1 cJ y0 y1 y2 y3 y4 y5 X1 hok hl1
    generalize joinV (tksOf (exT e')) = JV at *
    unfold JoinOut at cJ2
    go_wp2_with fail
    refine cJ2.out.mono ?_; rintro e w3 ⟨rfl, hB⟩
    have hf := Lib.hid (show JoinOut JV w (.returned (.tuple #[.string (tx JV.1), .int .i64 JV.2])) w3 from ⟨rfl, B2.out.trans (hB.mono B2.out.size)⟩)
    clear hB cJ2
    go_wp2_with fail
    go_ret2
    exact hf.out
theorem rsame_self (x : Ex) (y z : Value) (W : World) (h1 : ExAt W y x) (h2 : ExAt W z x) (hw : ExWf x) : Calls Tryz.prog 22 #[y, z] W (BB true W) :=
  (rsame_any x.size x x y z W (Nat.le_refl _) h1 h2 hw hw).mono fun e w' h => ⟨by rw [h.1]; simp, h.2⟩
/-- What Format and Parse return for an expression that is made. -/
theorem made_text {x : Ex} (h : MadeB 5 x) : ∃ T : List UInt8, fmtV x = (T, 0) ∧ exprV T = (x, 0, 0) ∧ T.length ≤ 16384 := by
  have hv := h.valid
  have hb := made_bounds
  have h1 := h.tl
  have h2 := h.wt
  have hW := whole_ex x h.ok
  have hok := ex_ok x h.ok
  have hsz := h.sz
  have hdp := h.dp
  have hj := join_ok (exT x) hok (by omega) (by omega)
  refine ⟨txt [40] (exT x), ?_, ?_, ?_⟩
  · unfold fmtV
    rw [if_pos hv]
    exact hj.1
  · exact (read_txt (exT x) x hW hok (by omega) (by omega)).1 ⟨by omega, by omega⟩
  · have := txt_le (exT x) [40]
    omega
set_option maxRecDepth 8000 in
set_option maxHeartbeats 8000000 in
theorem back_walk (v : Value) (l : List Int) (w : World) (hT : EnvX w) (hI : IntsAt w v l) (hn : l.length ≤ 9223372036854775807) (hwl : ∀ x ∈ l, (Lit.int .i64 x).wf = true) :
    Calls Tryz.prog 6 #[v] w (BB true w) := by
  have cX := Lib.hid (expr_any v l w hI hn (fun x hx => Go.bounds_i64 (hwl x hx)))
  have cA := Lib.hid (fun W (hb : Below w.heap.size w W) => awake_any W (hT.keep hb))
  have cF := Lib.hid (fun (W : World) (hb : Below w.heap.size w W) (x : Ex) (y : Value) (h : ExAt W y x) (hM : MadeB 5 x) => pformat_any x y W (hT.keep hb) h hM.wf (fun _ => by have := hM.tl; have := made_bounds; omega))
  have cP := Lib.hid (fun (W : World) (hb : Below w.heap.size w W) (s : ByteArray) (hs : s.size ≤ 4611686018427387904) => parse_any s W (hT.keep hb) hs)
  clear hT hwl
  obtain ⟨pv, cv, rfl, _⟩ := hI
  generalize l.length = ll at *
  go_enter Tryz.func6, Tryz.ntmps6
  go_wp2_with fail
  refine cX.out.mono ?_; rintro e w1 ⟨x, q1, q2, n1, c1, n2, c2, rfl, hM, hE, hB⟩
  have hal := alloc_at w1 (xo x.d (.slice q1 n1 c1) (.slice q2 n2 c2))
  have B2 := Lib.hid (hB.trans (hal.mono hB.size))
  have K2 := Lib.hid (XAt.new w1 x.d (.slice q1 n1 c1) (.slice q2 n2 c2))
  have F2 := Lib.hid (hE.at.below hal)
  obtain ⟨T, hf1, hf2, hf3⟩ := made_text hM
  have cF2 := Lib.hid (cF.out _ B2.out x _ F2.out hM)
  rw [hf1] at cF2
  have cS2 := Lib.hid (fun (W : World) (y z : Value) (h1 : ExAt W y x) (h2 : ExAt W z x) => rsame_self x y z W h1 h2 hM.wf)
  have hp2 := Lib.hid hf2
  clear hB hE hal cX cF hM hf1 hf2
  unfold exV at cF2 ⊢
  generalize hdx : x.d = dx at *
  have hdx' := Lib.hid hdx
  clear hdx
  go_upto_region 2 with fail
  obtain ⟨b3, hb3⟩ : ∃ b, w1.heap.size = b := ⟨_, rfl⟩
  rw [hb3] at K2 ⊢
  clear hb3
  generalize w1.alloc (xo dx (.slice q1 n1 c1) (.slice q2 n2 c2)) = W2 at *
  obtain ⟨_, y0, y1, y2, y3, y4, y5⟩ := K2.out
  unfold JoinOut at cF2
  go_wp2_with fail
  refine cF2.out.mono ?_; rintro e w3 ⟨rfl, hB⟩
  have B3 := Lib.hid (B2.out.trans (hB.mono B2.out.size))
  have K3 := Lib.hid (K2.out.keep hB)
  have F3 := Lib.hid (F2.out.below hB)
  have cP3 := Lib.hid (cP.out w3 B3.out (tx T) (by rw [tx_size]; omega))
  rw [bl_tx, hp2.out] at cP3
  clear hB cF2 cP y0 y1 y2 y3 y4 y5 K2 F2 B2
  unfold ExprOut at cP3
  go_wp2_with fail
  refine cP3.out.mono ?_; rintro e w4 ⟨u, rfl, hu, hB⟩
  obtain ⟨uu, aa, rfl, hu1, hu2⟩ := id hu
  obtain ⟨p4, k4, rfl, _, _⟩ := hu1
  obtain ⟨p5, k5, rfl, _, _⟩ := hu2
  have hal := alloc_at w4 (xo x.d (.slice p4 x.d.ws.length k4) (.slice p5 x.kids.len k5))
  have B5 := Lib.hid ((B3.out.trans (hB.mono B3.out.size)).trans (hal.mono (by have := B3.out.size; have := hB.size; omega)))
  have K5 := Lib.hid ((K3.out.keep hB).keep hal)
  have F5 := Lib.hid ((F3.out.below hB).below hal)
  have G5 := Lib.hid (hu.at.below hal)
  have J5 := Lib.hid (XAt.new w4 x.d (.slice p4 x.d.ws.length k4) (.slice p5 x.kids.len k5))
  clear hB cP3 hu hal K3 F3 B3 hf3
  simp only [exV]
  unfold exV at F5 G5
  rw [hdx'.out] at *
  generalize dx.ws.length = nw at *
  generalize x.kids.len = nk at *
  go_upto_region 4 with fail
  obtain ⟨b6, hb6⟩ : ∃ b, w4.heap.size = b := ⟨_, rfl⟩
  rw [hb6] at J5 ⊢
  clear hb6
  generalize w4.alloc (xo dx (.slice p4 nw k4) (.slice p5 nk k5)) = W5 at *
  obtain ⟨_, y0, y1, y2, y3, y4, y5⟩ := K5.out
  obtain ⟨_, z0, z1, z2, z3, z4, z5⟩ := J5.out
  have cS5 := Lib.hid (cS2.out W5 _ _ F5.out G5.out)
  go_wp2_with fail
  refine cS5.out.mono ?_; rintro e w6 ⟨rfl, hB⟩
  have B6 := Lib.hid (B5.out.trans (hB.mono B5.out.size))
  have cW := Lib.hid (cA.out w6 B6.out)
  clear hB cS5 y0 y1 y2 y3 y4 y5 z0 z1 z2 z3 z4 z5 K5 J5 F5 G5 B5
  go_wp2_with fail
  refine cW.out.mono ?_; rintro e w7 ⟨rfl, hB⟩
  have hf := Lib.hid (B6.out.trans (hB.mono B6.out.size))
  clear hB cW
  go_wp2_with fail
  go_ret
  exact ⟨rfl, hf.out⟩
end Go.Proofs.YtjmipikahaoblaaGreatDoor.Syn
