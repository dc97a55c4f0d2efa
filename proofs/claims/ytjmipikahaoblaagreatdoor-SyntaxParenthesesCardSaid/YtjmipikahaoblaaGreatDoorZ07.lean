/- The reader in memory: an expression that begins with a name. Rows of expressions of the call's own; copies of lists of expressions. The reader in memory: an operand; parts that are joined (each given the readers that it calls). The reader in memory: parts that are joined; the induction. The reader in memory: all levels. What is read has at most as many nodes as tokens (mathematics). -/
import Derived.Test.YtjmipikahaoblaaGreatDoorZ06
import Derived.Test.YtjmipikahaoblaaGreatDoorZ04
namespace Go.Proofs.YtjmipikahaoblaaGreatDoor.Syn
open Go.RowKit Go.Lib Go.Proofs.YtjmipikahaoblaaGreatDoor.Bas Go.Proofs.YtjmipikahaoblaaGreatDoor.Cal Go.Proofs.YtjmipikahaoblaaGreatDoor.Lx Go.Proofs.YtjmipikahaoblaaGreatDoor.Sc Go.Proofs.YtjmipikahaoblaaGreatDoor.Dk
set_option linter.unusedVariables false

theorem nx_zero (L : List Tok) (i : Nat) : nxT L (i, 0) = tk L i := by unfold nxT; rw [if_neg (by simp)]
theorem strs_fresh {B : Nat} {w : World} {v : Value} {l : List (List UInt8)} (h : SRow B w v l) : StrsS (fun b => B ≤ b) w v l := by
  rcases h.2 with ⟨rfl, h0⟩ | ⟨g, cap, cur, rfl, hb, hg, hnc, _⟩
  · exact ⟨none, 0, by rw [h0], ⟨by omega, fun _ => rfl⟩, fun h => by omega⟩
  · refine ⟨_, _, rfl, ⟨hnc, fun e => by cases e⟩, fun _ => ⟨g, 0, rfl, hb, fun i hi => ?_⟩⟩
    have := sv_at l i hi
    rw [Nat.zero_add, World.ownsRow.cellAt h i (by omega)]
    exact this
set_option maxRecDepth 8000 in
set_option maxHeartbeats 16000000 in
theorem named_any (B d : Nat) (v : Value) (L : List Tk) (i : Nat) (w : World) (h : RdAt B w d v L (i, 0)) :
    Calls Tryz.prog 151 #[.pointer (some ⟨d, 0, none⟩)] w (RdOut B d v L (namedR (toks L) (rs i)) w) := by
  have hdB := h.lt
  have hBw := h.le
  have al := alloc_at w zx
  have R0 := Lib.hid (h.keep al)
  have X0 := Lib.hid (XF.new w n0 (.slice none 0 0) (.slice none 0 0))
  have K0 := Lib.hid (Kept.of_below (d := d) al)
  have cN := Lib.hid (fun s w h => name_any B d v L s (.slice none 0 0) [] w h (Nat.zero_le _) (strsS_nil _ _))
  have cT := Lib.hid (fun s t w h => takesWord_any B d v L s t w h)
  have cW := Lib.hid (fun s w h => wantsWord_any B d v L s wTo w h)
  have cU := Lib.hid (fun s x w h => number_any B d v L s x w h)
  have cL := Lib.hid (fun i w h => words_any B d v L i w h)
  have h24 : ∀ w, OpsAt w → w.cell? ⟨0, 24, none⟩ = some (.string (tx wIn)) := fun w h => (h 4 (by decide)).1
  have h30 : ∀ w, OpsAt w → w.cell? ⟨0, 30, none⟩ = some (.string (tx wFrom)) := fun w h => (h 5 (by decide)).1
  have h24' := Lib.hid h24
  have h30' := Lib.hid h30
  have hfin := Lib.hid (show ∀ (W : World) (b2 : Nat) (x : Nd) (q1 q2 : Option Addr) (n1 c1 n2 c2 : Nat), w.heap.size ≤ b2 → RdAt B W d v L (sim (namedR (toks L) (rs i)).1) → Kept d w W → ((namedR (toks L) (rs i)).1.e = 0 → ExS (fun b => w.heap.size ≤ b ∧ b ≠ b2) W (exV x (.slice q1 n1 c1) (.slice q2 n2 c2)) (namedR (toks L) (rs i)).2) →
      RdOut B d v L (namedR (toks L) (rs i)) w (.returned (exV x (.slice q1 n1 c1) (.slice q2 n2 c2))) (setEx W b2 x (.slice q1 n1 c1) (.slice q2 n2 c2)) from fun W b2 x q1 q2 n1 c1 n2 c2 hb hR hK hE =>
        ⟨_, rfl, hR.setEx (by omega) _ _ _, fun he => (hE he).frame fun b hs hl => ⟨hs.1, setEx_block _ _ _ _ _ _ hs.2⟩, ⟨x, q1, q2, n1, c1, n2, c2, rfl⟩, kept_setEx hK hb _ _ _⟩)
  clear h h24 h30
  have hl1 : tx wTo = { data := #[116, 111] } := rfl
  rw [hl1] at cW
  clear hl1
  go_enter Tryz.func151, Tryz.ntmps151
  go_upto_region 1 with fail
  obtain ⟨b2, hb2⟩ : ∃ b, w.heap.size = b := ⟨_, rfl⟩
  rw [hb2] at X0 ⊢
  have hbw := Lib.hid (show w.heap.size ≤ b2 from by omega)
  have hbd : b2 ≠ d := by omega
  have hBb : B ≤ b2 := by omega
  clear hb2 al
  have hzx : (Obj.cells #[.int .i64 0, .string { data := #[] }, .slice none 0 0, .int .i64 0, .int .i64 0, .slice none 0 0] 25) = zx := rfl
  first | rw [hzx] | skip
  generalize w.alloc zx = W0 at *
  clear hzx
  go_wp2_with fail
  refine (cN.out (i, 0) W0 R0.out).mono ?_; rintro e w1 ⟨rfl, hR, hK⟩
  have hRx := hR
  have K1 := Lib.hid (K0.out.trans hK)
  have X1 := Lib.hid (X0.out.kept hK hbd)
  rw [nx_zero]
  by_cases hE : nameE (tk (toks L) i) [] = 0
  · have hno := nameS_ok hE
    rw [hno] at hRx
    have R1 := Lib.hid hRx
    have cT1 := Lib.hid (cT.out (i + 1, 0) wIn w1 hRx)
    unfold TakeOut at cT1
    rw [takeB_is _ _ _ _ (by decide)] at cT1
    have g24 := h24'.out w1 hRx.ops
    have hin := Lib.hid (fun h => named_in (toks L) i hE h)
    have hfr := Lib.hid (fun h1 h2 => named_from (toks L) i hE h1 h2)
    have hba := Lib.hid (fun h1 h2 => named_bare (toks L) i hE h1 h2)
    have htk : takeS (toks L) (i + 1, 0) 1 wIn = if isB (toks L) (rs (i + 1)) 1 wIn = true then (i + 2, 0) else (i + 1, 0) := by
      unfold takeS; rw [takeB_is _ _ _ _ (by decide)]; rfl
    rw [htk] at cT1
    clear hR hRx hK hno htk X0 K0 R0 cN
    obtain ⟨nm, hnm⟩ : ∃ nm, (tk (toks L) i).t = nm := ⟨_, rfl⟩
    rw [hnm] at hin hfr hba ⊢
    clear hnm
    cases hb1 : isB (toks L) (rs (i + 1)) 1 wIn with
    | true =>
      rw [hb1, if_pos rfl] at cT1
      have hX := Lib.hid (hin.out hb1)
      clear hin hfr hba hb1 h30' cT cW cU
      go_wp2_with fail
      refine cT1.out.mono ?_; rintro e w2 ⟨rfl, hR, hK⟩
      have K2 := Lib.hid (K1.out.trans hK)
      have X2 := Lib.hid (X1.out.kept hK hbd)
      have cL2 := Lib.hid (cL.out (i + 2) w2 hR)
      have hsz := K2.out.size
      clear hR hK K1 X1 R1 cT1 g24
      go_wp2_with fail
      refine cL2.out.mono ?_; rintro e w3 ⟨u, l, rfl, hR, hle, hS, hK⟩
      have K3 := Lib.hid (K2.out.trans hK)
      have X3 := X2.out.kept hK hbd
      obtain ⟨pu, cu, rfl⟩ := srow_form hS
      have hf := Lib.hid (hfin.out w3 b2 ⟨4, nm, l, 0, 0⟩ pu none l.length cu 0 0 hbw.out (by rw [hX.out]; exact hR) K3.out (fun he => by
        rw [hX.out] at he ⊢
        have hl := hle he
        refine ⟨_, _, rfl, ?_, foS_nil _ _⟩
        rw [← hl]
        refine (strs_fresh hS).mono fun b hb _ => ⟨by omega, ?_⟩
        have := X2.out.at_.1
        omega))
      have hset := Lib.hid (X3.set ⟨4, nm, l, 0, 0⟩ (.slice pu l.length cu) (.slice none 0 0))
      obtain ⟨⟨z0, y0, y1, y2, y3, y4, y5⟩, f0, f1, f2, f3, f4, f5⟩ := X3
      clear hR hK K2 X2 hS hle cL2 K3
      generalize l.length = nl at *
      go_wp2_with fail
      refine (show bodyPost _ _ _ _ _ (setEx w3 b2 ⟨4, nm, l, 0, 0⟩ (.slice pu nl cu) (.slice none 0 0)) from ?_)
      clear y0 y1 y2 y3 y4 y5 f0 f1 f2 f3 f4 f5
      generalize setEx w3 b2 ⟨4, nm, l, 0, 0⟩ (.slice pu nl cu) (.slice none 0 0) = W9 at *
      obtain ⟨_, q0, q1, q2, q3, q4, q5⟩ := hset.out
      exact bodyPost_ret (v := exV ⟨4, nm, l, 0, 0⟩ (.slice pu nl cu) (.slice none 0 0)) (by simp [results, Tryz.results151, go_sem, q0, q1, q2, q3, q4, q5, exV]) rfl hf.out
    | false =>
      rw [hb1, if_neg (by simp)] at cT1
      go_wp2_with fail
      refine cT1.out.mono ?_; rintro e w2 ⟨rfl, hR, hK⟩
      have K2 := Lib.hid (K1.out.trans hK)
      have X2 := Lib.hid (X1.out.kept hK hbd)
      have R2 := Lib.hid hR
      have cT2 := Lib.hid (cT.out (i + 1, 0) wFrom w2 hR)
      unfold TakeOut at cT2
      have g30 := h30'.out w2 hR.ops
      have htk : takeS (toks L) (i + 1, 0) 1 wFrom = if isB (toks L) (rs (i + 1)) 1 wFrom = true then (i + 2, 0) else (i + 1, 0) := by
        unfold takeS; rw [takeB_is _ _ _ _ (by decide)]; rfl
      rw [htk, takeB_is _ _ _ _ (by decide)] at cT2
      clear hR hK K1 X1 R1 cT1 g24 htk hin h24' h30' cT cL
      cases hb2 : isB (toks L) (rs (i + 1)) 1 wFrom with
      | true =>
        rw [hb2, if_pos rfl] at cT2
        have hX := Lib.hid (hfr.out hb1 hb2)
        clear hfr hba hb1 hb2
        go_wp2_with fail
        refine cT2.out.mono ?_; rintro e w3 ⟨rfl, hR, hK⟩
        have K3 := Lib.hid (K2.out.trans hK)
        have X3 := Lib.hid (X2.out.kept hK hbd)
        have cA := Lib.hid (cU.out (i + 2, 0) (-1000000000) w3 hR)
        unfold NumOut at cA
        rw [nx_zero] at cA
        clear hR hK K2 X2 R2 cT2 g30
        generalize (tk (toks L) (i + 2)).n = low at *
        go_wp2_with fail
        refine cA.out.mono ?_; rintro e w4 ⟨rfl, hR, hK⟩
        have K4 := Lib.hid (K3.out.trans hK)
        have X4 := Lib.hid (X3.out.kept hK hbd)
        have cB := Lib.hid (cW.out _ w4 hR)
        generalize numS (toks L) (i + 2, 0) (-1000000000) = s2 at *
        clear hR hK K3 X3 cA cW
        go_wp2_with fail
        refine cB.out.mono ?_; rintro e w5 ⟨_, rfl, hR, hK⟩
        have K5 := Lib.hid (K4.out.trans hK)
        have X5 := Lib.hid (X4.out.kept hK hbd)
        have cC := Lib.hid (cU.out _ low w5 hR)
        unfold NumOut at cC
        have hnx := Lib.hid (show ∀ j, wantS (toks L) s2 1 wTo = (j, 0) → (nxT (toks L) (wantS (toks L) s2 1 wTo)).n = (tk (toks L) j).n from fun j hj => by rw [hj, nx_zero])
        generalize wantS (toks L) s2 1 wTo = s3 at *
        generalize (nxT (toks L) s3).n = high at *
        clear hR hK K4 X4 cB cU
        go_wp2_with fail
        refine cC.out.mono ?_; rintro e w6 ⟨rfl, hR, hK⟩
        have K6 := Lib.hid (K5.out.trans hK)
        have X6 := X5.out.kept hK hbd
        have hf := Lib.hid (hfin.out w6 b2 ⟨5, nm, [], low, high⟩ none none 0 0 0 0 hbw.out (by rw [hX.out.1]; exact hR) K6.out (fun he => by
          obtain ⟨e1, e2⟩ := hX.out.2 he
          rw [e1, hnx.out _ e2]
          exact ex_leaf _ _ _ rfl))
        have hset := Lib.hid (X6.set ⟨5, nm, [], low, high⟩ (.slice none 0 0) (.slice none 0 0))
        obtain ⟨⟨z0, y0, y1, y2, y3, y4, y5⟩, f0, f1, f2, f3, f4, f5⟩ := X6
        clear hR hK K5 X5 cC hX hnx
        go_wp2_with fail
        refine (show bodyPost _ _ _ _ _ (setEx w6 b2 ⟨5, nm, [], low, high⟩ (.slice none 0 0) (.slice none 0 0)) from ?_)
        clear y0 y1 y2 y3 y4 y5 f0 f1 f2 f3 f4 f5
        generalize setEx w6 b2 ⟨5, nm, [], low, high⟩ (.slice none 0 0) (.slice none 0 0) = W9 at *
        obtain ⟨_, q0, q1, q2, q3, q4, q5⟩ := hset.out
        exact bodyPost_ret (v := exV ⟨5, nm, [], low, high⟩ (.slice none 0 0) (.slice none 0 0)) (by simp [results, Tryz.results151, go_sem, q0, q1, q2, q3, q4, q5, exV]) rfl hf.out
      | false =>
        rw [hb2, if_neg (by simp)] at cT2
        have hX := Lib.hid (hba.out hb1 hb2)
        clear hfr hba hb1 hb2 cW cU
        go_wp2_with fail
        refine cT2.out.mono ?_; rintro e w3 ⟨rfl, hR, hK⟩
        have K3 := Lib.hid (K2.out.trans hK)
        have X3 := X2.out.kept hK hbd
        have hf := Lib.hid (hfin.out w3 b2 ⟨3, nm, [], 0, 0⟩ none none 0 0 0 0 hbw.out (by rw [hX.out]; exact hR) K3.out (fun he => by rw [hX.out]; exact ex_leaf _ _ _ rfl))
        have hset := Lib.hid (X3.set ⟨3, nm, [], 0, 0⟩ (.slice none 0 0) (.slice none 0 0))
        obtain ⟨⟨z0, y0, y1, y2, y3, y4, y5⟩, f0, f1, f2, f3, f4, f5⟩ := X3
        clear hR hK K2 X2 cT2 hX
        go_wp2_with fail
        refine (show bodyPost _ _ _ _ _ (setEx w3 b2 ⟨3, nm, [], 0, 0⟩ (.slice none 0 0) (.slice none 0 0)) from ?_)
        clear y0 y1 y2 y3 y4 y5 f0 f1 f2 f3 f4 f5
        generalize setEx w3 b2 ⟨3, nm, [], 0, 0⟩ (.slice none 0 0) (.slice none 0 0) = W9 at *
        obtain ⟨_, q0, q1, q2, q3, q4, q5⟩ := hset.out
        exact bodyPost_ret (v := exV ⟨3, nm, [], 0, 0⟩ (.slice none 0 0) (.slice none 0 0)) (by simp [results, Tryz.results151, go_sem, q0, q1, q2, q3, q4, q5, exV]) rfl hf.out
  · have hno := nameS_no hE
    have her := Lib.hid (named_err (toks L) i hE)
    rw [hno] at hRx
    have hne : (i, nameE (tk (toks L) i) []).2 ≠ 0 := hE
    have hk1 : takeB (toks L) (i, nameE (tk (toks L) i) []) 1 wIn = false := takeB_no _ _ _ _ hE (by decide)
    have hk2 : takeB (toks L) (i, nameE (tk (toks L) i) []) 1 wFrom = false := takeB_no _ _ _ _ hE (by decide)
    have hs1 : takeS (toks L) (i, nameE (tk (toks L) i) []) 1 wIn = (i, nameE (tk (toks L) i) []) := by unfold takeS; rw [if_neg (by simp [hk1])]
    have hs2 : takeS (toks L) (i, nameE (tk (toks L) i) []) 1 wFrom = (i, nameE (tk (toks L) i) []) := by unfold takeS; rw [if_neg (by simp [hk2])]
    have hEh := Lib.hid hE
    have cT1 := Lib.hid (cT.out _ wIn w1 hRx)
    unfold TakeOut at cT1
    rw [hk1, hs1] at cT1
    have g24 := h24'.out w1 hRx.ops
    generalize nameE (tk (toks L) i) [] = E at *
    clear hR hRx hK hno X0 K0 R0 cN hne hk1 hs1 cW cU cL hE
    generalize (tk (toks L) i).t = nm at *
    go_wp2_with fail
    refine cT1.out.mono ?_; rintro e w2 ⟨rfl, hR, hK⟩
    have K2 := Lib.hid (K1.out.trans hK)
    have X2 := Lib.hid (X1.out.kept hK hbd)
    have cT2 := Lib.hid (cT.out _ wFrom w2 hR)
    unfold TakeOut at cT2
    rw [hk2, hs2] at cT2
    have g30 := h30'.out w2 hR.ops
    clear hR hK K1 X1 cT1 g24 hk2 hs2 h24' h30' cT
    go_wp2_with fail
    refine cT2.out.mono ?_; rintro e w3 ⟨rfl, hR, hK⟩
    have K3 := Lib.hid (K2.out.trans hK)
    have X3 := X2.out.kept hK hbd
    have hf := Lib.hid (hfin.out w3 b2 ⟨3, nm, [], 0, 0⟩ none none 0 0 0 0 hbw.out (by rw [her.out]; exact hR) K3.out (fun he => absurd he (sim_err her.out hEh.out)))
    have hset := Lib.hid (X3.set ⟨3, nm, [], 0, 0⟩ (.slice none 0 0) (.slice none 0 0))
    obtain ⟨⟨z0, y0, y1, y2, y3, y4, y5⟩, f0, f1, f2, f3, f4, f5⟩ := X3
    clear hR hK K2 X2 cT2 her hEh
    go_wp2_with fail
    refine (show bodyPost _ _ _ _ _ (setEx w3 b2 ⟨3, nm, [], 0, 0⟩ (.slice none 0 0) (.slice none 0 0)) from ?_)
    clear y0 y1 y2 y3 y4 y5 f0 f1 f2 f3 f4 f5
    generalize setEx w3 b2 ⟨3, nm, [], 0, 0⟩ (.slice none 0 0) (.slice none 0 0) = W9 at *
    obtain ⟨_, q0, q1, q2, q3, q4, q5⟩ := hset.out
    exact bodyPost_ret (v := exV ⟨3, nm, [], 0, 0⟩ (.slice none 0 0) (.slice none 0 0)) (by simp [results, Tryz.results151, go_sem, q0, q1, q2, q3, q4, q5, exV]) rfl hf.out
end Go.Proofs.YtjmipikahaoblaaGreatDoor.Syn
namespace Go.Proofs.YtjmipikahaoblaaGreatDoor.Syn
open Go.RowKit Go.Lib Go.Proofs.YtjmipikahaoblaaGreatDoor.Bas Go.Proofs.YtjmipikahaoblaaGreatDoor.Cal Go.Proofs.YtjmipikahaoblaaGreatDoor.Lx Go.Proofs.YtjmipikahaoblaaGreatDoor.Sc
set_option linter.unusedVariables false

/-- An expression, the value of its words, that of its arguments. -/
abbrev Px := Ex × Value × Value
def px0 : Px := (e0, .slice none 0 0, .slice none 0 0)
def six (p : Px) : List Value := [.int .i64 p.1.d.op, .string (tx p.1.d.nm), p.2.1, .int .i64 p.1.d.lo, .int .i64 p.1.d.hi, p.2.2]
def fl6 (P : List Px) : List Value := P.flatMap six
theorem fl6_cons (p : Px) (r : List Px) : fl6 (p :: r) = .int .i64 p.1.d.op :: .string (tx p.1.d.nm) :: p.2.1 :: .int .i64 p.1.d.lo :: .int .i64 p.1.d.hi :: p.2.2 :: fl6 r := by simp [fl6, six]
theorem fl6_append (P Q : List Px) : fl6 (P ++ Q) = fl6 P ++ fl6 Q := by simp [fl6]
theorem fl6_length (P : List Px) : (fl6 P).length = P.length * 6 := by
  induction P with
  | nil => rfl
  | cons p r ih => rw [fl6_cons]; simp only [List.length_cons]; omega
theorem fl6_at (P : List Px) : ∀ (i : Nat) (h : i < P.length), (fl6 P)[i * 6]? = some (.int .i64 P[i].1.d.op) ∧ (fl6 P)[i * 6 + 1]? = some (.string (tx P[i].1.d.nm)) ∧ (fl6 P)[i * 6 + 2]? = some P[i].2.1 ∧ (fl6 P)[i * 6 + 3]? = some (.int .i64 P[i].1.d.lo) ∧ (fl6 P)[i * 6 + 4]? = some (.int .i64 P[i].1.d.hi) ∧ (fl6 P)[i * 6 + 5]? = some P[i].2.2 := by
  induction P with
  | nil => intro i h; simp at h
  | cons p r ih =>
    intro i h
    rw [fl6_cons]
    cases i with
    | zero => simp
    | succ i =>
      have := ih i (by simpa using h)
      rw [show (i + 1) * 6 = i * 6 + 1 + 1 + 1 + 1 + 1 + 1 by omega]
      simpa using this
theorem fl6_of (P : List Px) (j : Nat) (u : Value) (h : (fl6 P)[j]? = some u) : ∃ i, ∃ hi : i < P.length, (j = i * 6 ∧ u = .int .i64 P[i].1.d.op) ∨ (j = i * 6 + 1 ∧ u = .string (tx P[i].1.d.nm)) ∨ (j = i * 6 + 2 ∧ u = P[i].2.1) ∨ (j = i * 6 + 3 ∧ u = .int .i64 P[i].1.d.lo) ∨ (j = i * 6 + 4 ∧ u = .int .i64 P[i].1.d.hi) ∨ (j = i * 6 + 5 ∧ u = P[i].2.2) := by
  have hj : j < P.length * 6 := by
    have := (List.getElem?_eq_some_iff.1 h).1
    rw [fl6_length] at this; exact this
  have a := fl6_at P (j / 6) (by omega)
  refine ⟨j / 6, by omega, ?_⟩
  have hm : j % 6 = 0 ∨ j % 6 = 1 ∨ j % 6 = 2 ∨ j % 6 = 3 ∨ j % 6 = 4 ∨ j % 6 = 5 := by omega
  rcases hm with e | e | e | e | e | e
  · have e2 : j = j / 6 * 6 := by omega
    rw [e2, a.1] at h
    exact .inl ⟨e2, (Option.some.inj h).symm⟩
  · have e2 : j = j / 6 * 6 + 1 := by omega
    rw [e2, a.2.1] at h
    exact .inr (.inl ⟨e2, (Option.some.inj h).symm⟩)
  · have e2 : j = j / 6 * 6 + 2 := by omega
    rw [e2, a.2.2.1] at h
    exact .inr (.inr (.inl ⟨e2, (Option.some.inj h).symm⟩))
  · have e2 : j = j / 6 * 6 + 3 := by omega
    rw [e2, a.2.2.2.1] at h
    exact .inr (.inr (.inr (.inl ⟨e2, (Option.some.inj h).symm⟩)))
  · have e2 : j = j / 6 * 6 + 4 := by omega
    rw [e2, a.2.2.2.2.1] at h
    exact .inr (.inr (.inr (.inr (.inl ⟨e2, (Option.some.inj h).symm⟩))))
  · have e2 : j = j / 6 * 6 + 5 := by omega
    rw [e2, a.2.2.2.2.2] at h
    exact .inr (.inr (.inr (.inr (.inr ⟨e2, (Option.some.inj h).symm⟩))))
theorem fl6_set (P : List Px) : ∀ (k : Nat) (x : Px), k < P.length → fl6 (P.set k x) = ((((((fl6 P).set (k * 6) (.int .i64 x.1.d.op)).set (k * 6 + 1) (.string (tx x.1.d.nm))).set (k * 6 + 2) x.2.1).set (k * 6 + 3) (.int .i64 x.1.d.lo)).set (k * 6 + 4) (.int .i64 x.1.d.hi)).set (k * 6 + 5) x.2.2 := by
  induction P with
  | nil => intro k x h; simp at h
  | cons p r ih =>
    intro k x h
    cases k with
    | zero => rw [List.set_cons_zero, fl6_cons, fl6_cons]; rfl
    | succ k =>
      rw [List.set_cons_succ, fl6_cons, fl6_cons, ih k x (by simpa using h), show (k + 1) * 6 = k * 6 + 1 + 1 + 1 + 1 + 1 + 1 by omega]
      rfl
/-- The words and the arguments of each are there. -/
def PartsS (S : Nat → Prop) (w : World) (P : List Px) : Prop := ∀ p ∈ P, StrsS S w p.2.1 p.1.d.ws ∧ FoS S w p.2.2 p.1.kids
theorem PartsS.frame {S T : Nat → Prop} {w w' : World} {P : List Px} (h : PartsS S w P) (hf : ∀ b, S b → b < w.heap.size → T b ∧ w'.heap[b]? = w.heap[b]?) : PartsS T w' P := fun p hp => ⟨(h p hp).1.frame hf, (h p hp).2.frame hf⟩
theorem PartsS.below {S : Nat → Prop} {w w' : World} {P : List Px} (h : PartsS S w P) (hb : Below w.heap.size w w') : PartsS S w' P := h.frame fun b hs hl => ⟨hs, hb.block b hl⟩
theorem PartsS.mono {S T : Nat → Prop} {w : World} {P : List Px} (h : PartsS S w P) (hs : ∀ b, S b → b < w.heap.size → T b) : PartsS T w P := h.frame fun b h1 hl => ⟨hs b h1 hl, rfl⟩
theorem PartsS.append {S : Nat → Prop} {w : World} {P Q : List Px} (h : PartsS S w P) (k : PartsS S w Q) : PartsS S w (P ++ Q) := fun p hp => by
  rcases List.mem_append.1 hp with e | e
  · exact h p e
  · exact k p e
theorem PartsS.one {S : Nat → Prop} {w : World} {e : Ex} {u a : Value} (h1 : StrsS S w u e.d.ws) (h2 : FoS S w a e.kids) : PartsS S w [(e, u, a)] := fun p hp => by
  obtain rfl := List.mem_singleton.1 hp
  exact ⟨h1, h2⟩
theorem PartsS.set {S : Nat → Prop} {w : World} {P : List Px} (h : PartsS S w P) (k : Nat) {e : Ex} {u a : Value} (h1 : StrsS S w u e.d.ws) (h2 : FoS S w a e.kids) : PartsS S w (P.set k (e, u, a)) := fun p hp => by
  rcases List.mem_or_eq_of_mem_set hp with e | e
  · exact h p e
  · subst e; exact ⟨h1, h2⟩
def ERow (B : Nat) (w : World) (v : Value) (P : List Px) : Prop := w.ownsRow B 25 6 v P.length (fl6 P)
theorem erow_nil (B : Nat) (w : World) : ERow B w (.slice none 0 0) [] := World.ownsRow_nil w B _ 6
theorem ERow.keep {B : Nat} {w w' : World} {v : Value} {P : List Px} (h : ERow B w v P) (hb : Below w.heap.size w w') : ERow B w' v P := own_keep h hb
theorem ERow.mono {B B' : Nat} {w : World} {v : Value} {P : List Px} (h : ERow B w v P) (hB : B' ≤ B) : ERow B' w v P := Go.Joins.ownsRow_le h hB
theorem ERow.block {B : Nat} {w : World} {v : Value} {P : List Px} (h : ERow B w v P) : ∀ g, v.ownBlock = some g → B ≤ g ∧ g < w.heap.size := World.ownsRow.lt h
theorem ERow.form {B : Nat} {w : World} {v : Value} {P : List Px} (h : ERow B w v P) : ∃ p c, v = .slice p P.length c ∧ (P.length ≤ c ∧ (p = none → c = 0)) := by
  rcases h.2 with ⟨rfl, e⟩ | ⟨g, cap, cur, rfl, hb, hh, hc, _⟩
  · exact ⟨none, 0, by rw [e], by omega, fun _ => rfl⟩
  · exact ⟨_, cap, rfl, hc, fun e => by cases e⟩
/-- A row reads as the list of its expressions. -/
theorem ERow.fo {B : Nat} {S : Nat → Prop} {w : World} {v : Value} {P : List Px} (h : ERow B w v P) (hp : PartsS S w P) (hs : ∀ g, v.ownBlock = some g → S g) : FoS S w v (Fo.ofL (P.map (·.1))) := by
  have hln : (Fo.ofL (P.map (·.1))).len = P.length := by rw [ofL_len]; simp
  unfold FoS
  rw [hln]
  rcases h.2 with ⟨rfl, h0⟩ | ⟨g, cap, cur, rfl, hb, hg, hnc, _⟩
  · exact ⟨none, 0, by rw [h0], ⟨by omega, fun _ => rfl⟩, fun h => by omega⟩
  · refine ⟨_, cap, rfl, ⟨hnc, fun e => by cases e⟩, fun _ => ⟨g, 0, rfl, hs g rfl, RowS.of _ _ _ fun i hi => ?_⟩⟩
    rw [hln] at hi
    have hf := fl6_at P i hi
    have hgi : (Fo.ofL (P.map (·.1))).get i = P[i].1 := by rw [ofL_get]; simp [List.getD_eq_getElem?_getD, hi]
    obtain ⟨w1, w2⟩ := hp P[i] (List.getElem_mem _)
    rw [hgi, Nat.zero_add]
    refine ⟨⟨?_, ?_, ⟨P[i].2.1, ?_, w1⟩, ?_, ?_⟩, P[i].2.2, ?_, w2⟩
    · rw [World.ownsRow.cellAt h (i * 6) (by omega)]; exact hf.1
    · rw [World.ownsRow.cellAt h (i * 6 + 1) (by omega)]; exact hf.2.1
    · rw [World.ownsRow.cellAt h (i * 6 + 2) (by omega)]; exact hf.2.2.1
    · rw [World.ownsRow.cellAt h (i * 6 + 3) (by omega)]; exact hf.2.2.2.1
    · rw [World.ownsRow.cellAt h (i * 6 + 4) (by omega)]; exact hf.2.2.2.2.1
    · rw [World.ownsRow.cellAt h (i * 6 + 5) (by omega)]; exact hf.2.2.2.2.2
/-- A list of expressions, with the values of their words and arguments. -/
theorem FoS.pairs {S : Nat → Prop} {w : World} {v : Value} {F : Fo} (h : FoS S w v F) : ∃ P : List Px, P.map (·.1) = F.toL ∧ PartsS S w P ∧ ∃ p c, v = .slice p F.len c ∧ (F.len ≤ c ∧ (p = none → c = 0)) ∧ (0 < F.len → ∃ b off, p = some ⟨b, off, none⟩ ∧ S b ∧ b < w.heap.size ∧ ∀ j u, (fl6 P)[j]? = some u → w.cell? ⟨b, off + j, none⟩ = some u) := by
  by_cases h0 : 0 < F.len
  · obtain ⟨p, c, rfl, hc, hp⟩ := h
    obtain ⟨b, off, rfl, hs, hr⟩ := hp h0
    have hlt := hr.lt h0
    have each : ∀ i, i < F.len → ∃ q : Value × Value, w.cell? ⟨b, off + i * 6 + 2, none⟩ = some q.1 ∧ w.cell? ⟨b, off + i * 6 + 5, none⟩ = some q.2 ∧ StrsS S w q.1 (F.get i).d.ws ∧ FoS S w q.2 (F.get i).kids := fun i hi => by
      obtain ⟨⟨_, _, ⟨u, h3, h4⟩, _, _⟩, a, h7, h8⟩ := RowS.get F b off i hr hi
      exact ⟨(u, a), h3, h7, h4, h8⟩
    have : Inhabited (Value × Value) := ⟨(undef, undef)⟩
    obtain ⟨q, hq⟩ := Go.Deep.choose_lt each
    have hl : ((List.range F.len).map fun i => ((F.get i, (q i).1, (q i).2) : Px)).length = F.len := by simp
    refine ⟨(List.range F.len).map fun i => (F.get i, (q i).1, (q i).2), ?_, ?_, _, c, rfl, hc, fun _ => ⟨b, off, rfl, hs, hlt, fun j u hu => ?_⟩⟩
    · apply List.ext_getElem
      · simp [Fo.toL_length]
      · intro i h1 h2
        simp [Fo.get, List.getD_eq_getElem?_getD, h2]
    · intro p hp
      obtain ⟨i, hi, rfl⟩ := List.mem_map.1 hp
      have := hq i (by simpa using hi)
      exact ⟨this.2.2.1, this.2.2.2⟩
    · obtain ⟨i, hi, hcs⟩ := fl6_of _ j u hu
      rw [hl] at hi
      obtain ⟨⟨g1, g2, _, g4, g5⟩, _⟩ := RowS.get F b off i hr hi
      have gq := hq i hi
      simp only [List.getElem_map, List.getElem_range] at hcs
      rcases hcs with ⟨rfl, rfl⟩ | ⟨rfl, rfl⟩ | ⟨rfl, rfl⟩ | ⟨rfl, rfl⟩ | ⟨rfl, rfl⟩ | ⟨rfl, rfl⟩
      · exact g1
      · rw [← Nat.add_assoc]; exact g2
      · rw [← Nat.add_assoc]; exact gq.1
      · rw [← Nat.add_assoc]; exact g4
      · rw [← Nat.add_assoc]; exact g5
      · rw [← Nat.add_assoc]; exact gq.2.1
  · obtain ⟨p, c, hv, hc, _⟩ := h
    refine ⟨[], ?_, (fun p hp => by simp at hp), p, c, hv, hc, fun e => absurd e h0⟩
    have : F.toL.length = 0 := by rw [Fo.toL_length]; omega
    rw [List.length_eq_zero_iff.1 this]; rfl
theorem six_one {P : List Px} {S : Nat → Prop} {w : World} (h : PartsS S w P) : ∀ u ∈ fl6 P, u.oneCell' = true := by
  intro u hu
  obtain ⟨x, hx, hu⟩ := List.mem_flatMap.1 hu
  obtain ⟨⟨p1, c1, h1, _⟩, p2, c2, h2, _⟩ := h x hx
  simp only [six, List.mem_cons, List.not_mem_nil, or_false] at hu
  rcases hu with rfl | rfl | rfl | rfl | rfl | rfl
  · rfl
  · rfl
  · rw [h1]; rfl
  · rfl
  · rfl
  · rw [h2]; rfl
theorem info_ex : ∃ i z, Tryz.prog.info? 25 = some i ∧ i.zero = some z ∧ i.size = 6 ∧ z.cells.size = 6 ∧ i.bytes = 88 := by
  have h : (Tryz.prog.info? 25).map (fun i => (i.zero.map (·.cells.size), i.size, i.bytes)) = some (some 6, 6, 88) := by kernel_rfl
  cases hh : Tryz.prog.info? 25 with
  | none => rw [hh] at h; simp at h
  | some i =>
    rw [hh] at h
    simp at h
    obtain ⟨⟨z, hz, hz2⟩, h2, h3⟩ := h
    exact ⟨i, z, rfl, hz, h2, hz2, h3⟩
/-- append of expressions that lie in this world. -/
theorem wpList_append_exs {w : World} {ops : Array Oper} {rest : List Oper} {o : Oper} {a : Act} {Q : Exit → Act → World → Prop} (hgd : o.guard = none) (s x : Operand)
    (ho : o.op = .call { callee := .builtin .append, args := #[s, x], argTypes := #[23, 23] })
    (B : Nat) (v : Value) (P : List Px) (hs : a.eval s = v) (hrow : ERow B w v P) (p : Option Addr) (n c : Nat) (M : List Px) (hx : a.eval x = .slice p n c) (hn : n = M.length) (hpc : p = none → c = 0)
    (hM : 0 < n → ∃ b off, p = some ⟨b, off, none⟩ ∧ ∀ j u, (fl6 M)[j]? = some u → w.cell? ⟨b, off + j, none⟩ = some u) (h1 : ∀ u ∈ fl6 M, u.oneCell' = true)
    (hlen : P.length + M.length ≤ 1000000) (hB : B ≤ w.heap.size)
    (h : ∀ v' w', ERow B w' v' (P ++ M) → w.grownBy w' v.ownBlock → wpList Tryz.prog ops Q rest (a.put o.dst v') w') : wpList Tryz.prog ops Q (o :: rest) a w := by
  obtain ⟨i, z, hi, hz, hsz, hzs, hby⟩ := info_ex
  subst hn
  cases p with
  | none =>
    have hM0 : M = [] := by
      cases M with
      | nil => rfl
      | cons y r => obtain ⟨b, off, e, _⟩ := hM (by simp); cases e
    subst hM0
    obtain rfl := hpc rfl
    refine wpList_append_own_none hgd s x 23 ho B 25 i 6 Tryz.underlying23 hi v P.length (fl6 P) hs hrow hx (h v w (by rw [List.append_nil]; exact hrow) (World.grownBy.refl w _))
  | some ad =>
    refine wpList_append_own _ hgd s x 23 ho B 25 i z 6 88 Tryz.underlying23 hi hz hsz hby hzs (by decide) v P.length (fl6 P) hs hrow ad M.length c (fl6 M) hx (fl6_length M) ?_ h1 (by unfold maxLen; omega) (by omega) hB ?_
    · intro j u hj
      have hj2 : j < M.length * 6 := by rw [← fl6_length]; exact (List.getElem?_eq_some_iff.1 hj).1
      obtain ⟨b, off, e, hc⟩ := hM (by omega)
      cases e
      rw [Go.WideShapes.add_plain]
      exact hc j u hj
    · intro v' w' hown hg _
      refine h v' w' ?_ hg
      unfold ERow
      rw [List.length_append, fl6_append]
      exact hown
/-- One expression that was just laid into a block of its own. -/
theorem one_cells (w : World) (p : Px) (t : TypeId) : ∀ j u, (fl6 [p])[j]? = some u → (w.alloc (.cells #[.int .i64 p.1.d.op, .string (tx p.1.d.nm), p.2.1, .int .i64 p.1.d.lo, .int .i64 p.1.d.hi, p.2.2] t)).cell? ⟨w.heap.size, 0 + j, none⟩ = some u := by
  intro j u hu
  obtain ⟨i, hi, hcs⟩ := fl6_of _ j u hu
  obtain rfl : i = 0 := by simpa using hi
  simp only [List.getElem_cons_zero] at hcs
  rcases hcs with ⟨rfl, rfl⟩ | ⟨rfl, rfl⟩ | ⟨rfl, rfl⟩ | ⟨rfl, rfl⟩ | ⟨rfl, rfl⟩ | ⟨rfl, rfl⟩ <;> simp
theorem erow_lit (B : Nat) (w : World) (P : List Px) (hB : B ≤ w.heap.size) (hl : P.length ≤ 1000) : ERow B (w.alloc (.cells (fl6 P).toArray 25)) (.slice (some ⟨w.heap.size, 0, none⟩) P.length P.length) P := by
  have := World.ownsRow_lit (e := 25) (size := 6) (base := B) w (fl6 P).toArray P.length hB (by unfold maxLen; omega) (by simp [fl6_length])
  unfold ERow
  simpa using this
end Go.Proofs.YtjmipikahaoblaaGreatDoor.Syn
namespace Go.Proofs.YtjmipikahaoblaaGreatDoor.Syn
open Go.RowKit Go.Lib Go.Proofs.YtjmipikahaoblaaGreatDoor.Bas Go.Proofs.YtjmipikahaoblaaGreatDoor.Cal Go.Proofs.YtjmipikahaoblaaGreatDoor.Lx Go.Proofs.YtjmipikahaoblaaGreatDoor.Sc Go.Proofs.YtjmipikahaoblaaGreatDoor.Dk
set_option linter.unusedVariables false

/-- append of one expression that was just laid into a block of its own. -/
theorem wpList_append_ex1 {w : World} {ops : Array Oper} {rest : List Oper} {o : Oper} {a : Act} {Q : Exit → Act → World → Prop} (hgd : o.guard = none) (s x : Operand)
    (ho : o.op = .call { callee := .builtin .append, args := #[s, x], argTypes := #[23, 23] })
    (B : Nat) (v : Value) (P : List Px) (hs : a.eval s = v) (hrow : ERow B w v P) (d : Nd) (k : Fo) (q1 q2 : Option Addr) (n1 c1 n2 c2 : Nat) (hx : a.eval x = .slice (some ⟨w.heap.size, 0, none⟩) 1 1)
    (hlen : P.length + 1 ≤ 1000000) (hB : B ≤ w.heap.size)
    (h : ∀ g c w', ERow B w' (.slice (some ⟨g, 0, none⟩) (P.length + 1) c) (P ++ [(⟨d, k⟩, .slice q1 n1 c1, .slice q2 n2 c2)]) → w.grownBy w' v.ownBlock → (v.ownBlock = some g ∨ w.heap.size < g) → wpList Tryz.prog ops Q rest (a.put o.dst (.slice (some ⟨g, 0, none⟩) (P.length + 1) c)) w') :
    wpList Tryz.prog ops Q (o :: rest) a (w.alloc (xo d (.slice q1 n1 c1) (.slice q2 n2 c2))) := by
  obtain ⟨i, z, hi, hz, hsz, hzs, hby⟩ := info_ex
  refine wpList_append_lies (w.alloc (xo d (.slice q1 n1 c1) (.slice q2 n2 c2))) hgd s x 23 ho B 25 i z 6 88 Tryz.underlying23 hi hz hsz hby hzs (by decide) v P.length (fl6 P) hs (World.ownsRow.alloc hrow _) ⟨w.heap.size, 0, none⟩ 1 1 (fl6 [(⟨d, k⟩, .slice q1 n1 c1, .slice q2 n2 c2)]) hx (by rw [fl6_length]; rfl) ?_ ?_ (by decide) (by unfold maxLen; omega) (by omega) (by simp; omega) (w.heap.size + 1) (by simp) ?_
  · intro j u hu
    rw [Go.WideShapes.add_plain]
    exact one_cells w (⟨d, k⟩, .slice q1 n1 c1, .slice q2 n2 c2) _ j u hu
  · intro u hu
    simp only [fl6, List.flatMap_cons, List.flatMap_nil, List.append_nil, six, List.mem_cons, List.not_mem_nil, or_false] at hu
    rcases hu with rfl | rfl | rfl | rfl | rfl | rfl <;> rfl
  · intro g c w' hown hg hat hlt
    refine h g c w' ?_ (grownBy_alloc hg) (by rcases hat with e | e; exact .inl e; exact .inr (by omega))
    unfold ERow
    rw [fl6_append]
    simpa using hown
theorem rd_fin {B d : Nat} {v : Value} {L : List Tk} {X : Rs × Ex} {w W : World} {b2 : Nat} {x : Nd} {q1 q2 : Option Addr} {n1 c1 n2 c2 : Nat} (hb : w.heap.size ≤ b2) (hBw : B ≤ w.heap.size) (hR : RdAt B W d v L (sim X.1)) (hK : Kept d w W)
    (hE : X.1.e = 0 → ExS (fun b => w.heap.size ≤ b ∧ b ≠ b2) W (exV x (.slice q1 n1 c1) (.slice q2 n2 c2)) X.2) :
    RdOut B d v L X w (.returned (exV x (.slice q1 n1 c1) (.slice q2 n2 c2))) (setEx W b2 x (.slice q1 n1 c1) (.slice q2 n2 c2)) :=
  ⟨_, rfl, hR.setEx (by omega) _ _ _, fun he => (hE he).frame fun b hs hl => ⟨hs.1, setEx_block _ _ _ _ _ _ hs.2⟩, ⟨x, q1, q2, n1, c1, n2, c2, rfl⟩, kept_setEx hK hb _ _ _⟩
/-- What a reader of expressions at the index i does: the function f with the arguments xs. -/
def Reads1 (B d : Nat) (v : Value) (L : List Tk) (f : FuncId) (xs : Array Value) (one : Rs → Rs × Ex) (i : Nat) : Prop := ∀ w, RdAt B w d v L (i, 0) → Calls Tryz.prog f xs w (RdOut B d v L (one (rs i)) w)
theorem is_kind {L : List Tok} {r : Rs} {k k' : Int} {s t : List UInt8} (h : isB L r k s = true) (hn : k ≠ k') : isB L r k' t = false := by
  have := of_decide_eq_true h
  unfold isB
  apply decide_eq_false
  rintro ⟨_, e, _⟩
  exact hn (this.2.1.symm.trans e)
theorem ExS.kept {S : Nat → Prop} {d : Nat} {w w' : World} {v : Value} {e : Ex} (h : ExS S w v e) (hK : Kept d w w') (hd : ∀ b, S b → b ≠ d) : ExS S w' v e := h.frame fun b hs hl => ⟨hs, hK.block b hl (hd b hs)⟩
/-- One expression in a block of its own, as a list. -/
theorem fo_one {S : Nat → Prop} {w : World} {d : Nd} {q1 q2 : Option Addr} {n1 c1 n2 c2 : Nat} {e : Ex} (h : ExS S w (exV d (.slice q1 n1 c1) (.slice q2 n2 c2)) e) (T : Nat → Prop) (hT : ∀ b, S b → b < w.heap.size → T b) (hg : T w.heap.size) :
    FoS T (w.alloc (xo d (.slice q1 n1 c1) (.slice q2 n2 c2))) (.slice (some ⟨w.heap.size, 0, none⟩) 1 1) e.one := by
  obtain ⟨u, a, hv, h1, h2⟩ := h
  unfold exV at hv
  have hv2 := Value.agg.inj hv
  simp only [Array.mk.injEq, List.cons.injEq, Value.int.injEq, Value.string.injEq, true_and, and_true] at hv2
  obtain ⟨e1, e2, rfl, e3, e4, rfl⟩ := hv2
  have al := alloc_at w (xo d (.slice q1 n1 c1) (.slice q2 n2 c2))
  have hr := erow_lit 0 w [(e, .slice q1 n1 c1, .slice q2 n2 c2)] (Nat.zero_le _) (by simp)
  have hcs : (fl6 [(e, .slice q1 n1 c1, .slice q2 n2 c2)]).toArray = #[.int .i64 d.op, .string (tx d.nm), .slice q1 n1 c1, .int .i64 d.lo, .int .i64 d.hi, .slice q2 n2 c2] := by
    simp [fl6, six, e1, e2, e3, e4]
  rw [hcs] at hr
  exact hr.fo (PartsS.one (h1.frame fun b hs hl => ⟨hT b hs hl, al.block b hl⟩) (h2.frame fun b hs hl => ⟨hT b hs hl, al.block b hl⟩)) (fun g hg' => by cases hg'; exact hg)
set_option maxRecDepth 8000 in
set_option maxHeartbeats 16000000 in
theorem single_step (B d : Nat) (v : Value) (L : List Tk) (i : Nat) (hJ : i < L.length → Reads1 B d v L 52 #[(.pointer (some ⟨d, 0, none⟩)), .int .i64 8] (eitherR (toks L)) (i + 1))
    (hS : i < L.length → Reads1 B d v L 122 #[(.pointer (some ⟨d, 0, none⟩))] (negR (toks L) (eitherR (toks L))) (i + 1)) :
    Reads1 B d v L 122 #[(.pointer (some ⟨d, 0, none⟩))] (negR (toks L) (eitherR (toks L))) i := by
  intro w h
  have hdB := h.lt
  have hBw := h.le
  have al := alloc_at w zx
  have R0 := Lib.hid (h.keep al)
  have X0 := Lib.hid (XF.new w n0 (.slice none 0 0) (.slice none 0 0))
  have K0 := Lib.hid (Kept.of_below (d := d) al)
  have cM := Lib.hid (fun s w h => takesMark_any B d v L s [40] w h)
  have cC := Lib.hid (fun s w h => wantsMark_any B d v L s [41] w h)
  have cT := Lib.hid (fun s t w h => takesWord_any B d v L s t w h)
  have cA := Lib.hid (fun w h => named_any B d v L i w h)
  have h6 : ∀ w, OpsAt w → w.cell? ⟨0, 6, none⟩ = some (.string (tx wTrue)) := fun w h => (h 1 (by decide)).1
  have h12 : ∀ w, OpsAt w → w.cell? ⟨0, 12, none⟩ = some (.string (tx wFalse)) := fun w h => (h 2 (by decide)).1
  have h36 : ∀ w, OpsAt w → w.cell? ⟨0, 36, none⟩ = some (.string (tx wNot)) := fun w h => (h 6 (by decide)).1
  have h6' := Lib.hid h6
  have h12' := Lib.hid h12
  have h36' := Lib.hid h36
  have hlt : ∀ k t, k ≠ 0 → isB (toks L) (rs i) k t = true → i < L.length := fun k t hk hb => by have := is_lt hb; rwa [toks_len] at this
  clear h h6 h12 h36
  have hl1 : tx [40] = { data := #[40] } := rfl
  have hl2 : tx [41] = { data := #[41] } := rfl
  rw [hl1] at cM
  rw [hl2] at cC
  clear hl1 hl2
  have hff := Lib.hid (fun X W b2 x q1 q2 n1 c1 n2 c2 => @rd_fin B d v L X w W b2 x q1 q2 n1 c1 n2 c2)
  obtain ⟨X, hXX⟩ : ∃ X, negR (toks L) (eitherR (toks L)) (rs i) = X := ⟨_, rfl⟩
  rw [hXX]
  have cM0 := Lib.hid (cM.out (i, 0))
  unfold TakeOut at cM0
  have htk : ∀ k t, k ≠ 0 → takeS (toks L) (i, 0) k t = if isB (toks L) (rs i) k t = true then (i + 1, 0) else (i, 0) := fun k t hk => by
    unfold takeS; rw [takeB_is _ _ _ _ hk]; rfl
  rw [htk 4 [40] (by decide), takeB_is _ _ _ _ (by decide)] at cM0
  go_enter Tryz.func122, Tryz.ntmps122
  go_upto_region 1 with fail
  obtain ⟨b2, hb2⟩ : ∃ b, w.heap.size = b := ⟨_, rfl⟩
  rw [hb2] at X0 ⊢
  have hbw := Lib.hid (show w.heap.size ≤ b2 from by omega)
  have hbd : b2 ≠ d := by omega
  have hBb : B ≤ b2 := by omega
  have hbs := Lib.hid (show ∀ W : World, XF W b2 n0 (.slice none 0 0) (.slice none 0 0) → ∀ b, W.heap.size ≤ b → w.heap.size ≤ b ∧ b ≠ b2 from fun W hX b hb => by have := hX.at_.1; have := hbw.out; omega)
  have hbs2 := Lib.hid (show ∀ W : World, Kept d w W → ∀ b, W.heap.size ≤ b → b ≠ d from fun W hK b hb => by have := hK.size; omega)
  clear hb2 al
  have hzx : (Obj.cells #[.int .i64 0, .string { data := #[] }, .slice none 0 0, .int .i64 0, .int .i64 0, .slice none 0 0] 25) = zx := rfl
  rw [hzx]
  generalize w.alloc zx = W0 at *
  clear hzx
  cases hb1 : isB (toks L) (rs i) 4 [40] with
  | true =>
    rw [hb1, if_pos rfl] at cM0
    have hil := hlt 4 [40] (by decide) hb1
    have cJ := Lib.hid (hJ hil)
    have hX := Lib.hid (show X = (want (toks L) (eitherR (toks L) (rs (i + 1))).1 4 [41], (eitherR (toks L) (rs (i + 1))).2) from by
      rw [← hXX, neg_atom _ _ _ (is_kind hb1 (by decide))]
      unfold atomR
      rw [if_neg (by simp), if_pos hb1]
      rfl)
    have hst := Lib.hid (step_either (toks L) (rs (i + 1)))
    unfold Reads1 at cJ
    clear hJ hS hXX hlt htk cT cA h6' h12' h36' hb1
    generalize eitherR (toks L) (rs (i + 1)) = Y at *
    go_wp2_with fail
    refine (cM0.out W0 R0.out).mono ?_; rintro e w1 ⟨rfl, hR, hK⟩
    have K1 := Lib.hid (K0.out.trans hK)
    have X1 := Lib.hid (X0.out.kept hK hbd)
    have cJ1 := Lib.hid (cJ.out w1 hR)
    clear hR hK K0 X0 R0 cM0 cJ cM
    go_wp2_with fail
    refine cJ1.out.mono ?_; rintro e w2 ⟨u, rfl, hR, hE, ⟨x, q1, q2, n1, c1, n2, c2, rfl⟩, hK⟩
    have al := alloc_at w2 (xo x (.slice q1 n1 c1) (.slice q2 n2 c2))
    have K2 := Lib.hid ((K1.out.trans hK).trans (Kept.of_below al))
    have X2 := Lib.hid ((X1.out.kept hK hbd).keep al)
    have hbs1 := hbs.out w1 X1.out
    have hbd1 := hbs2.out w1 K1.out
    have E2 := Lib.hid (fun he => ((hE he).below al).mono (T := fun b => (w.heap.size ≤ b ∧ b ≠ b2) ∧ b ≠ d) fun b hb _ => ⟨hbs1 b hb, hbd1 b hb⟩)
    have R2 := Lib.hid (hR.keep al)
    have Y2 := XAt.new w2 x (.slice q1 n1 c1) (.slice q2 n2 c2)
    have hb3d : w2.heap.size ≠ d := by have := hR.le; have := hR.lt; omega
    clear hR hE hK K1 X1 cJ1 al hbs1 hbd1
    unfold exV
    go_upto_region 3 with fail
    obtain ⟨b3, hb3⟩ : ∃ b, w2.heap.size = b := ⟨_, rfl⟩
    rw [hb3] at Y2 hb3d ⊢
    clear hb3
    generalize w2.alloc (xo x (.slice q1 n1 c1) (.slice q2 n2 c2)) = W2 at *
    have Y3 := Lib.hid Y2
    have cC2 := Lib.hid (cC.out _ W2 R2.out)
    clear cC
    go_wp2_with fail
    refine cC2.out.mono ?_; rintro e w4 ⟨_, rfl, hR, hK⟩
    have K4 := Lib.hid (K2.out.trans hK)
    have X4 := X2.out.kept hK hbd
    obtain ⟨_, z0, z1, z2, z3, z4, z5⟩ := Y3.out.block (hK.block b3 Y3.out.1 hb3d) hK.size
    have hf := Lib.hid (hff.out X w4 b2 x q1 q2 n1 c1 n2 c2 hbw.out (by omega) (by rw [hX.out]; simp only; rw [want_simR (toks L) (i + 1) Y.1 hst.out 4 [41] (by decide)]; exact hR) K4.out (fun he => by
      rw [hX.out] at he ⊢
      exact ((E2.out ((step_want _ _ _ _).ok he)).kept hK fun b hb => hb.2).mono fun b hb _ => hb.1))
    have hset := Lib.hid (X4.set x (.slice q1 n1 c1) (.slice q2 n2 c2))
    obtain ⟨⟨_, y0, y1, y2, y3, y4, y5⟩, f0, f1, f2, f3, f4, f5⟩ := X4
    clear hR hK K2 X2 E2 R2 Y2 Y3 cC2 K4 hX hst hff
    go_wp2_with fail
    refine (show bodyPost _ _ _ _ _ (setEx w4 b2 x (.slice q1 n1 c1) (.slice q2 n2 c2)) from ?_)
    clear y0 y1 y2 y3 y4 y5 f0 f1 f2 f3 f4 f5 z0 z1 z2 z3 z4 z5
    generalize setEx w4 b2 x (.slice q1 n1 c1) (.slice q2 n2 c2) = W9 at *
    obtain ⟨_, q0, q1', q2', q3, q4, q5⟩ := hset.out
    exact bodyPost_ret (v := exV x (.slice q1 n1 c1) (.slice q2 n2 c2)) (by simp [results, Tryz.results122, go_sem, q0, q1', q2', q3, q4, q5, exV]) rfl hf.out
  | false =>
    rw [hb1, if_neg (by simp)] at cM0
    have hna := Lib.hid (show isB (toks L) (rs i) 1 wNot = false → isB (toks L) (rs i) 1 wTrue = false → isB (toks L) (rs i) 1 wFalse = false → X = namedR (toks L) (rs i) from fun h1 h2 h3 => by
      rw [← hXX, neg_atom _ _ _ h1]; exact atom_named _ _ _ rfl hb1 h2 h3)
    have htr := Lib.hid (show isB (toks L) (rs i) 1 wNot = false → isB (toks L) (rs i) 1 wTrue = true → X = (rs (i + 1), ⟨⟨1, [], [], 0, 0⟩, .nil⟩) from fun h1 h2 => by
      rw [← hXX, neg_atom _ _ _ h1]; unfold atomR; rw [if_neg (by simp), if_neg (by simp [hb1]), if_pos h2]; rfl)
    have hfa := Lib.hid (show isB (toks L) (rs i) 1 wNot = false → isB (toks L) (rs i) 1 wTrue = false → isB (toks L) (rs i) 1 wFalse = true → X = (rs (i + 1), ⟨⟨2, [], [], 0, 0⟩, .nil⟩) from fun h1 h2 h3 => by
      rw [← hXX, neg_atom _ _ _ h1]; unfold atomR; rw [if_neg (by simp), if_neg (by simp [hb1]), if_neg (by simp [h2]), if_pos h3]; rfl)
    have hno := Lib.hid (show isB (toks L) (rs i) 1 wNot = true → X = ((negR (toks L) (eitherR (toks L)) (rs (i + 1))).1, notE (negR (toks L) (eitherR (toks L)) (rs (i + 1))).2) from fun h1 => by
      rw [← hXX]; exact neg_not _ _ i 0 h1)
    clear hJ hXX cC hb1
    go_wp2_with fail
    refine (cM0.out W0 R0.out).mono ?_; rintro e w1 ⟨rfl, hR, hK⟩
    have K1 := Lib.hid (K0.out.trans hK)
    have X1 := Lib.hid (X0.out.kept hK hbd)
    have g36 := h36'.out w1 hR.ops
    have cT1 := Lib.hid (cT.out (i, 0) wNot w1 hR)
    unfold TakeOut at cT1
    rw [htk 1 wNot (by decide), takeB_is _ _ _ _ (by decide)] at cT1
    clear hR hK K0 X0 R0 cM0 cM h36'
    cases hb2 : isB (toks L) (rs i) 1 wNot with
    | true =>
      rw [hb2, if_pos rfl] at cT1
      have cS := Lib.hid (hS (hlt 1 wNot (by decide) hb2))
      have hX := Lib.hid (hno.out hb2)
      unfold Reads1 at cS
      have hst := Lib.hid (step_negE (toks L) (rs (i + 1)))
      clear hna htr hfa hno hlt htk hS cA hb2 h6' h12'
      generalize negR (toks L) (eitherR (toks L)) (rs (i + 1)) = Y at *
      go_wp2_with fail
      refine cT1.out.mono ?_; rintro e w2 ⟨rfl, hR, hK⟩
      have K2 := Lib.hid (K1.out.trans hK)
      have X2 := Lib.hid (X1.out.kept hK hbd)
      have cS2 := Lib.hid (cS.out w2 hR)
      clear hR hK K1 X1 cT1 g36 cS
      go_wp2_with fail
      refine cS2.out.mono ?_; rintro e w3 ⟨u, rfl, hR, hE, ⟨x, q1, q2, n1, c1, n2, c2, rfl⟩, hK⟩
      have al := alloc_at w3 (xo x (.slice q1 n1 c1) (.slice q2 n2 c2))
      have K3 := Lib.hid ((K2.out.trans hK).trans (Kept.of_below al))
      have X3 := (X2.out.kept hK hbd).keep al
      have hbs1 := hbs.out w2 X2.out
      have hb3 := hbs.out w3 (X2.out.kept hK hbd) w3.heap.size (Nat.le_refl _)
      have E3 := Lib.hid (fun he => fo_one (hE he) (fun b => w.heap.size ≤ b ∧ b ≠ b2) (fun b hb _ => hbs1 b hb) hb3)
      have R3 := Lib.hid (hR.keep al)
      clear hR hE hK K2 X2 cS2 al hbs1 hb3
      unfold exV
      have hf := Lib.hid (hff.out X (w3.alloc (xo x (.slice q1 n1 c1) (.slice q2 n2 c2))) b2 ⟨6, [], [], 0, 0⟩ none (some ⟨w3.heap.size, 0, none⟩) 0 0 1 1 hbw.out (by omega) (by rw [hX.out]; exact R3.out) K3.out (fun he => by
        rw [hX.out] at he ⊢
        exact ⟨_, _, rfl, strsS_nil _ _, E3.out he⟩))
      have hset := Lib.hid (X3.set ⟨6, [], [], 0, 0⟩ (.slice none 0 0) (.slice (some ⟨w3.heap.size, 0, none⟩) 1 1))
      obtain ⟨⟨_, y0, y1, y2, y3, y4, y5⟩, f0, f1, f2, f3, f4, f5⟩ := X3
      clear E3 R3 K3 hX hst hff
      go_wp2_with fail
      refine (show bodyPost _ _ _ _ _ (setEx (w3.alloc (xo x (.slice q1 n1 c1) (.slice q2 n2 c2))) b2 ⟨6, [], [], 0, 0⟩ (.slice none 0 0) (.slice (some ⟨w3.heap.size, 0, none⟩) 1 1)) from ?_)
      clear y0 y1 y2 y3 y4 y5 f0 f1 f2 f3 f4 f5
      generalize setEx (w3.alloc (xo x (.slice q1 n1 c1) (.slice q2 n2 c2))) b2 ⟨6, [], [], 0, 0⟩ (.slice none 0 0) (.slice (some ⟨w3.heap.size, 0, none⟩) 1 1) = W9 at *
      obtain ⟨_, q0, q1', q2', q3, q4, q5⟩ := hset.out
      exact bodyPost_ret (v := exV ⟨6, [], [], 0, 0⟩ (.slice none 0 0) (.slice (some ⟨w3.heap.size, 0, none⟩) 1 1)) (by simp [results, Tryz.results122, go_sem, q0, q1', q2', q3, q4, q5, exV]) rfl hf.out
    | false =>
      rw [hb2, if_neg (by simp)] at cT1
      go_wp2_with fail
      refine cT1.out.mono ?_; rintro e w2 ⟨rfl, hR, hK⟩
      have K2 := Lib.hid (K1.out.trans hK)
      have X2 := Lib.hid (X1.out.kept hK hbd)
      have g6 := h6'.out w2 hR.ops
      have cT2 := Lib.hid (cT.out (i, 0) wTrue w2 hR)
      unfold TakeOut at cT2
      rw [htk 1 wTrue (by decide), takeB_is _ _ _ _ (by decide)] at cT2
      clear hR hK K1 X1 cT1 g36 hS hno h6'
      cases hb3 : isB (toks L) (rs i) 1 wTrue with
      | true =>
        rw [hb3, if_pos rfl] at cT2
        have hX := Lib.hid (htr.out hb2 hb3)
        clear hna htr hfa hlt htk cA hb2 hb3 h12' cT
        go_wp2_with fail
        refine cT2.out.mono ?_; rintro e w3 ⟨rfl, hR, hK⟩
        have K3 := Lib.hid (K2.out.trans hK)
        have X3 := X2.out.kept hK hbd
        have hf := Lib.hid (hff.out X w3 b2 ⟨1, [], [], 0, 0⟩ none none 0 0 0 0 hbw.out (by omega) (by rw [hX.out]; exact hR) K3.out (fun he => by rw [hX.out]; exact ex_leaf _ _ _ rfl))
        have hset := Lib.hid (X3.set ⟨1, [], [], 0, 0⟩ (.slice none 0 0) (.slice none 0 0))
        obtain ⟨⟨_, y0, y1, y2, y3, y4, y5⟩, f0, f1, f2, f3, f4, f5⟩ := X3
        clear hR hK K2 X2 cT2 K3 hX hff g6
        go_wp2_with fail
        refine (show bodyPost _ _ _ _ _ (setEx w3 b2 ⟨1, [], [], 0, 0⟩ (.slice none 0 0) (.slice none 0 0)) from ?_)
        clear y0 y1 y2 y3 y4 y5 f0 f1 f2 f3 f4 f5
        generalize setEx w3 b2 ⟨1, [], [], 0, 0⟩ (.slice none 0 0) (.slice none 0 0) = W9 at *
        obtain ⟨_, q0, q1', q2', q3, q4, q5⟩ := hset.out
        exact bodyPost_ret (v := exV ⟨1, [], [], 0, 0⟩ (.slice none 0 0) (.slice none 0 0)) (by simp [results, Tryz.results122, go_sem, q0, q1', q2', q3, q4, q5, exV]) rfl hf.out
      | false =>
        rw [hb3, if_neg (by simp)] at cT2
        go_wp2_with fail
        refine cT2.out.mono ?_; rintro e w3 ⟨rfl, hR, hK⟩
        have K3 := Lib.hid (K2.out.trans hK)
        have X3 := Lib.hid (X2.out.kept hK hbd)
        have g12 := h12'.out w3 hR.ops
        have cT3 := Lib.hid (cT.out (i, 0) wFalse w3 hR)
        unfold TakeOut at cT3
        rw [htk 1 wFalse (by decide), takeB_is _ _ _ _ (by decide)] at cT3
        clear hR hK K2 X2 cT2 g6 h12' htr
        cases hb4 : isB (toks L) (rs i) 1 wFalse with
        | true =>
          rw [hb4, if_pos rfl] at cT3
          have hX := Lib.hid (hfa.out hb2 hb3 hb4)
          clear hna hfa hlt htk cA hb2 hb3 hb4 cT
          go_wp2_with fail
          refine cT3.out.mono ?_; rintro e w4 ⟨rfl, hR, hK⟩
          have K4 := Lib.hid (K3.out.trans hK)
          have X4 := X3.out.kept hK hbd
          have hf := Lib.hid (hff.out X w4 b2 ⟨2, [], [], 0, 0⟩ none none 0 0 0 0 hbw.out (by omega) (by rw [hX.out]; exact hR) K4.out (fun he => by rw [hX.out]; exact ex_leaf _ _ _ rfl))
          have hset := Lib.hid (X4.set ⟨2, [], [], 0, 0⟩ (.slice none 0 0) (.slice none 0 0))
          obtain ⟨⟨_, y0, y1, y2, y3, y4, y5⟩, f0, f1, f2, f3, f4, f5⟩ := X4
          clear hR hK K3 X3 cT3 K4 hX hff g12
          go_wp2_with fail
          refine (show bodyPost _ _ _ _ _ (setEx w4 b2 ⟨2, [], [], 0, 0⟩ (.slice none 0 0) (.slice none 0 0)) from ?_)
          clear y0 y1 y2 y3 y4 y5 f0 f1 f2 f3 f4 f5
          generalize setEx w4 b2 ⟨2, [], [], 0, 0⟩ (.slice none 0 0) (.slice none 0 0) = W9 at *
          obtain ⟨_, q0, q1', q2', q3, q4, q5⟩ := hset.out
          exact bodyPost_ret (v := exV ⟨2, [], [], 0, 0⟩ (.slice none 0 0) (.slice none 0 0)) (by simp [results, Tryz.results122, go_sem, q0, q1', q2', q3, q4, q5, exV]) rfl hf.out
        | false =>
          rw [hb4, if_neg (by simp)] at cT3
          have hX := Lib.hid (hna.out hb2 hb3 hb4)
          clear hna hfa hlt htk hb2 hb3 hb4 cT
          go_wp2_with fail
          refine cT3.out.mono ?_; rintro e w4 ⟨rfl, hR, hK⟩
          have K4 := Lib.hid (K3.out.trans hK)
          have X4 := Lib.hid (X3.out.kept hK hbd)
          have cA4 := Lib.hid (cA.out w4 hR)
          clear hR hK K3 X3 cT3 g12 cA
          go_wp2_with fail
          refine cA4.out.mono ?_; rintro e w5 ⟨u, rfl, hR, hE, ⟨x, q1, q2, n1, c1, n2, c2, rfl⟩, hK⟩
          have K5 := Lib.hid (K4.out.trans hK)
          have hbs1 := hbs.out w4 X4.out
          have X5 := X4.out.kept hK hbd
          have hf := Lib.hid (hff.out X w5 b2 x q1 q2 n1 c1 n2 c2 hbw.out (by omega) (by rw [hX.out]; exact hR) K5.out (fun he => by
            rw [hX.out] at he ⊢
            exact (hE he).mono fun b hb _ => hbs1 b hb))
          have hset := Lib.hid (X5.set x (.slice q1 n1 c1) (.slice q2 n2 c2))
          obtain ⟨⟨_, y0, y1, y2, y3, y4, y5⟩, f0, f1, f2, f3, f4, f5⟩ := X5
          clear hR hE hK K4 X4 cA4 K5 hX hff hbs1
          unfold exV
          go_wp2_with fail
          refine (show bodyPost _ _ _ _ _ (setEx w5 b2 x (.slice q1 n1 c1) (.slice q2 n2 c2)) from ?_)
          clear y0 y1 y2 y3 y4 y5 f0 f1 f2 f3 f4 f5
          generalize setEx w5 b2 x (.slice q1 n1 c1) (.slice q2 n2 c2) = W9 at *
          obtain ⟨_, q0, q1', q2', q3, q4, q5⟩ := hset.out
          exact bodyPost_ret (v := exV x (.slice q1 n1 c1) (.slice q2 n2 c2)) (by simp [results, Tryz.results122, go_sem, q0, q1', q2', q3, q4, q5, exV]) rfl hf.out
end Go.Proofs.YtjmipikahaoblaaGreatDoor.Syn
namespace Go.Proofs.YtjmipikahaoblaaGreatDoor.Syn
open Go.RowKit Go.Lib Go.Proofs.YtjmipikahaoblaaGreatDoor.Bas Go.Proofs.YtjmipikahaoblaaGreatDoor.Cal Go.Proofs.YtjmipikahaoblaaGreatDoor.Lx Go.Proofs.YtjmipikahaoblaaGreatDoor.Sc Go.Proofs.YtjmipikahaoblaaGreatDoor.Dk
set_option linter.unusedVariables false

/-- What is read, its value's parts apart. -/
theorem rd_split {B d : Nat} {v : Value} {L : List Tk} {X : Rs × Ex} {w w' : World} {e : Ending} (h : RdOut B d v L X w e w') : ∃ (y : Ex) (q1 q2 : Option Addr) (n1 c1 n2 c2 : Nat), e = .returned (exV y.d (.slice q1 n1 c1) (.slice q2 n2 c2)) ∧ RdAt B w' d v L (sim X.1) ∧
    (X.1.e = 0 → y = X.2 ∧ StrsS (fun b => w.heap.size ≤ b) w' (.slice q1 n1 c1) y.d.ws ∧ FoS (fun b => w.heap.size ≤ b) w' (.slice q2 n2 c2) y.kids) ∧ Kept d w w' := by
  obtain ⟨u, rfl, hR, hE, ⟨x, q1, q2, n1, c1, n2, c2, rfl⟩, hK⟩ := h
  by_cases he : X.1.e = 0
  · obtain ⟨u', a', hv, ⟨p1, k1, rfl, h1⟩, ⟨p2, k2, rfl, h2⟩⟩ := hE he
    exact ⟨X.2, p1, p2, _, k1, _, k2, by rw [hv], hR, fun _ => ⟨rfl, ⟨p1, k1, rfl, h1⟩, ⟨p2, k2, rfl, h2⟩⟩, hK⟩
  · exact ⟨⟨x, .nil⟩, q1, q2, n1, c1, n2, c2, rfl, hR, fun h => absurd h he, hK⟩
/-- The blocks of the parts: behind b, but for the row's own one. -/
def S6 (b4 : Nat) (u : Value) : Nat → Prop := fun b => b4 < b ∧ u.ownBlock ≠ some b
theorem parts_app {b4 g : Nat} {u u' : Value} {w w' : World} {P Q : List Px} (hP : PartsS (S6 b4 u) w P) (hQ : PartsS (S6 b4 u) w Q) (hg : w.grownBy w' u.ownBlock) (hu' : u'.ownBlock = some g) (hat : u.ownBlock = some g ∨ w.heap.size < g) : PartsS (S6 b4 u') w' (P ++ Q) := by
  refine (hP.append hQ).frame fun b hs hl => ⟨⟨hs.1, ?_⟩, hg.block b hl (fun e => hs.2 e.symm)⟩
  rw [hu']
  rcases hat with e | e
  · rw [← e]; exact hs.2
  · intro e2; have := Option.some.inj e2; omega
theorem toks_eq (L : List Tk) (s : Nat × Int) (t : List UInt8) (h : takeB (toks L) s 1 t = false) : takeS (toks L) s 1 t = s := by unfold takeS; rw [if_neg (by simp [h])]
theorem take_err {L : List Tok} {r : Rs} {t : List UInt8} (h : takeB L (sim r) 1 t = true) : r.e = 0 := by
  by_cases e : r.e = 0
  · exact e
  · rw [takeB_no L (sim r) 1 t (fun h => e (sim_zero.1 h)) (by decide)] at h; cases h
theorem take_at {L : List Tok} {i : Nat} {r : Rs} (hS : Step (rs i) r) (h : r.e = 0) (t : List UInt8) : takeB L (sim r) 1 t = isB L r 1 t := by
  rw [hS.rs h, sim_ok rfl]; exact takeB_is L _ 1 t (by decide)
/-- A row's kids, as the reader leaves them. -/
structure JInv (B d : Nat) (v : Value) (L : List Tk) (w : World) (b4 i : Nat) (wd : List UInt8) (op : Int) (one : Rs → Rs × Ex) (X : Rs × Ex) (x6 : Value) (wr : World) (r : Rs) (P : List Px) : Prop where
  st : Step (rs i) r
  ge : i ≤ r.at'
  len : r.e = 0 → P.length ≤ r.at' + 1
  rd : RdAt B wr d v L (sim r)
  row : ERow (b4 + 1) wr x6 P
  ok : r.e = 0 → PartsS (S6 b4 x6) wr P ∧ restJ (toks L) wd op one r (P.map (·.1)) = X
  no : r.e ≠ 0 → sim X.1 = sim r
  kept : Kept d w wr
  res : XF wr b4 n0 (.slice none 0 0) (.slice none 0 0)
theorem map_two (a b : Px) : [a, b].map (·.1) = [a.1, b.1] := rfl
theorem JInv.fin {B d : Nat} {v : Value} {L : List Tk} {w : World} {b4 i : Nat} {wd : List UInt8} {op : Int} {one : Rs → Rs × Ex} {X : Rs × Ex} {x6 : Value} {wr : World} {r : Rs} {P : List Px} (h : JInv B d v L w b4 i wd op one X x6 wr r P) (h2 : 2 ≤ P.length)
    (hb : takeB (toks L) (sim r) 1 wd = false) (p : Option Addr) (n c : Nat) (hx : x6 = .slice p n c) (hw : w.heap.size ≤ b4) (hBw : B ≤ w.heap.size) {w' : World} (hR : RdAt B w' d v L (sim r)) (hrow : ERow (b4 + 1) w' x6 P) (hP : r.e = 0 → PartsS (S6 b4 x6) w' P) (hK : Kept d w w') :
    RdOut B d v L X w (.returned (exV ⟨op, [], [], 0, 0⟩ (.slice none 0 0) (.slice p n c))) (setEx w' b4 ⟨op, [], [], 0, 0⟩ (.slice none 0 0) (.slice p n c)) := by
  refine rd_fin hw hBw ?_ hK fun he => ?_
  · by_cases e : r.e = 0
    · have := (h.ok e).2
      rw [restJ_stop (toks L) wd op one r _ (by rw [← take_at h.st e, hb]; simp)] at this
      rw [← this]; exact hR
    · rw [h.no e]; exact hR
  · have e : r.e = 0 := by
      by_cases e : r.e = 0
      · exact e
      · exact absurd (sim_zero.1 (by rw [← h.no e]; exact sim_zero.2 he)) e
    have := (h.ok e).2
    rw [restJ_stop (toks L) wd op one r _ (by rw [← take_at h.st e, hb]; simp), opE_len _ _ (by simpa using h2)] at this
    rw [← this]
    subst hx
    have hf := hrow.fo (S := fun b => b4 < b) ((hP e).mono fun b hs _ => hs.1) (fun g hg => by have := hrow.block g hg; omega)
    exact ⟨_, _, rfl, strsS_nil _ _, hf.mono fun b hs _ => ⟨by omega, by omega⟩⟩
set_option maxRecDepth 8000 in
set_option maxHeartbeats 16000000 in
theorem joined_7 (B d : Nat) (v : Value) (L : List Tk) (i : Nat) (hP : ∀ j, i ≤ j → Reads1 B d v L 82 #[.pointer (some ⟨d, 0, none⟩), .int .i64 7] (negR (toks L) (eitherR (toks L))) j) :
    Reads1 B d v L 52 #[.pointer (some ⟨d, 0, none⟩), .int .i64 7] (joinR (toks L) wAnd 7 (negR (toks L) (eitherR (toks L)))) i := by
  intro w h
  have hdB := h.lt
  have hBw := h.le
  have al := alloc_at w zx
  have R0 := Lib.hid (h.keep al)
  have X0 := Lib.hid (XF.new w n0 (.slice none 0 0) (.slice none 0 0))
  have K0 := Lib.hid (Kept.of_below (d := d) al)
  have hm := Lib.hid (neg_at (toks L))
  have hst := Lib.hid (step_negE (toks L))
  have cP := Lib.hid hP
  unfold Reads1 at cP
  have cT := Lib.hid (fun s w h => takesWord_any B d v L s wAnd w h)
  have hop : ∀ w, OpsAt w → w.cell? ⟨0, 42, none⟩ = some (.string (tx wAnd)) := fun w h => (h 7 (by decide)).1
  have hop' := Lib.hid hop
  clear h hop hP
  generalize negR (toks L) (eitherR (toks L)) = one at *
  obtain ⟨X, hXX⟩ : ∃ X, joinR (toks L) wAnd 7 one (rs i) = X := ⟨_, rfl⟩
  rw [hXX]
  have hX0 := Lib.hid hXX
  clear hXX
  go_enter Tryz.func52, Tryz.ntmps52
  go_upto_region 1 with fail
  obtain ⟨b4, hb4⟩ : ∃ b, w.heap.size = b := ⟨_, rfl⟩
  rw [hb4] at X0 ⊢
  have hbw := Lib.hid (show w.heap.size ≤ b4 from by omega)
  have hbd : b4 ≠ d := by omega
  have hBb : B ≤ b4 := by omega
  clear hb4 al
  have hzx : (Obj.cells #[.int .i64 0, .string { data := #[] }, .slice none 0 0, .int .i64 0, .int .i64 0, .slice none 0 0] 25) = zx := rfl
  rw [hzx]
  generalize w.alloc zx = W0 at *
  clear hzx
  go_wp2_with fail
  refine (cP.out i (Nat.le_refl i) W0 R0.out).mono ?_; rintro e w1 hrd
  obtain ⟨y, q1, q2, n1, c1, n2, c2, rfl, hR, hE, hK⟩ := rd_split hrd
  have al := alloc_at w1 (xo y.d (.slice q1 n1 c1) (.slice q2 n2 c2))
  have R1 := Lib.hid (hR.keep al)
  have K1 := Lib.hid ((K0.out.trans hK).trans (Kept.of_below al))
  have X1 := Lib.hid ((X0.out.kept hK hbd).keep al)
  have hlt0 := X0.out.at_.1
  have E1 := Lib.hid (fun he => show y = (one (rs i)).2 ∧ PartsS (fun b => b4 < b) (w1.alloc (xo y.d (.slice q1 n1 c1) (.slice q2 n2 c2))) [(y, .slice q1 n1 c1, .slice q2 n2 c2)] from by
    obtain ⟨h1, h2, h3⟩ := hE he
    exact ⟨h1, PartsS.one ((h2.below al).mono fun b hb _ => by omega) ((h3.below al).mono fun b hb _ => by omega)⟩)
  have Y1 := XAt.new w1 y.d (.slice q1 n1 c1) (.slice q2 n2 c2)
  have hb5d : w1.heap.size ≠ d := by have := hR.le; have := hR.lt; omega
  clear hR hE hK K0 X0 R0 hrd al hlt0
  unfold exV
  go_upto_region 2 with fail
  obtain ⟨b5, hb5⟩ : ∃ b, w1.heap.size = b := ⟨_, rfl⟩
  rw [hb5] at Y1 hb5d ⊢
  clear hb5
  generalize w1.alloc (xo y.d (.slice q1 n1 c1) (.slice q2 n2 c2)) = W1 at *
  have Y1' := Lib.hid Y1
  have hS1 := Lib.hid (hst.out (rs i))
  have hM1 := Lib.hid (hm.out (rs i))
  have hX := Lib.hid (hX0.out.symm.trans (join_start (toks L) wAnd 7 one (rs i)))
  clear hX0 Y1
  generalize one (rs i) = Y at *
  obtain ⟨Y1r, Y2e⟩ := Y
  simp only at hM1 hS1 R1 E1 hX
  have cT1 := Lib.hid (cT.out (sim Y1r) W1 R1.out)
  have g1 := hop'.out W1 R1.out.ops
  have hno := Lib.hid (fun h => toks_eq L (sim Y1r) wAnd h)
  have hye := Lib.hid (show takeB (toks L) (sim Y1r) 1 wAnd = true → Y1r.e = 0 ∧ isB (toks L) Y1r 1 wAnd = true ∧ takeS (toks L) (sim Y1r) 1 wAnd = (Y1r.at' + 1, 0) from fun h => by
    have e := take_err h
    refine ⟨e, by rw [← take_at hS1.out e]; exact h, ?_⟩
    unfold takeS; rw [if_pos h, sim_ok e]; rfl)
  have hne := Lib.hid (show takeB (toks L) (sim Y1r) 1 wAnd = false → X = (Y1r, Y2e) from fun h => by
    rw [hX.out, restJ_stop _ _ _ _ _ _ (fun e => by rw [take_at hS1.out e.1, e.2] at h; cases h)]
    rfl)
  unfold TakeOut at cT1
  clear R1
  generalize takeS (toks L) (sim Y1r) 1 wAnd = s1 at *
  generalize takeB (toks L) (sim Y1r) 1 wAnd = bt at *
  go_wp2_with fail
  refine cT1.out.mono ?_; rintro e w2 ⟨rfl, hR, hK⟩
  have K2 := Lib.hid (K1.out.trans hK)
  have X2 := Lib.hid (X1.out.kept hK hbd)
  have Y2' := Lib.hid (Y1'.out.block (hK.block b5 Y1'.out.1 hb5d) hK.size)
  have E2 := Lib.hid (fun he => (⟨(E1.out he).1, (E1.out he).2.frame fun b hs hl => ⟨hs, hK.block b hl (by omega)⟩⟩ : y = Y2e ∧ PartsS (fun b => b4 < b) w2 [(y, .slice q1 n1 c1, .slice q2 n2 c2)]))
  have R2 := Lib.hid hR
  have hb5w := Lib.hid (show b5 < w2.heap.size from Y2'.out.1)
  have hb4w := Lib.hid (show b4 < w2.heap.size from X2.out.at_.1)
  clear hR hK K1 X1 Y1' E1 cT1 g1
  cases bt with
  | false =>
    have hXe := Lib.hid (hne.out rfl)
    have hs := hno.out rfl
    subst hs
    obtain ⟨_, z0, z1, z2, z3, z4, z5⟩ := Y2'.out
    have hf := Lib.hid (rd_fin (X := X) (x := y.d) (q1 := q1) (q2 := q2) (n1 := n1) (c1 := c1) (n2 := n2) (c2 := c2) hbw.out hBw (by rw [hXe.out]; exact R2.out) K2.out (fun he => by
      rw [hXe.out] at he ⊢
      obtain ⟨h1, h2⟩ := E2.out he
      obtain ⟨p1, p2⟩ := h2 _ (List.mem_singleton.2 rfl)
      simp only at p1 p2
      rw [← h1]
      have := hbw.out
      exact ⟨_, _, rfl, p1.mono fun b hb _ => ⟨by omega, by omega⟩, p2.mono fun b hb _ => ⟨by omega, by omega⟩⟩))
    have hset := Lib.hid (X2.out.set y.d (.slice q1 n1 c1) (.slice q2 n2 c2))
    obtain ⟨⟨_, y0, y1, y2, y3, y4, y5⟩, f0, f1, f2, f3, f4, f5⟩ := X2.out
    clear hb4w K2 X2 Y2' E2 R2 hXe hno hye hne hX hS1 hM1 cP cT hop' hm hst
    go_wp2_with fail
    refine (show bodyPost _ _ _ _ _ (setEx w2 b4 y.d (.slice q1 n1 c1) (.slice q2 n2 c2)) from ?_)
    clear y0 y1 y2 y3 y4 y5 f0 f1 f2 f3 f4 f5 z0 z1 z2 z3 z4 z5
    generalize setEx w2 b4 y.d (.slice q1 n1 c1) (.slice q2 n2 c2) = W9 at *
    obtain ⟨_, q0, q1', q2', q3, q4, q5⟩ := hset.out
    exact bodyPost_ret (v := exV y.d (.slice q1 n1 c1) (.slice q2 n2 c2)) (by simp [results, Tryz.results52, go_sem, q0, q1', q2', q3, q4, q5, exV]) rfl hf.out
  | true =>
    obtain ⟨he0, his, hs⟩ := hye.out rfl
    subst hs
    have hr := hS1.out.rs he0
    have hE3 := Lib.hid (E2.out he0)
    have hat : i ≤ Y1r.at' := hM1.out
    generalize Y1r.at' = j at *
    subst hr
    have hX3 := Lib.hid (hX.out.trans (restJ_step (toks L) wAnd 7 one hm.out (rs j) [Y2e] rfl his))
    clear hno hye hne hX E2 his he0
    have cP2 := Lib.hid (fun n => cP.out (j + 1) (by omega) (w2.drewN n) (R2.out.drewN n))
    go_upto_region 4 with fail
    go_cut [6] (fun x6 wx => ∃ (r : Rs) (P : List Px), lenOf x6 = P.length ∧ 2 ≤ P.length ∧ P.length ≤ 500002 ∧ Hid (JInv B d v L w b4 i wAnd 7 one X x6 wx r P))
    case first =>
      obtain ⟨_, z0, z1, z2, z3, z4, z5⟩ := Y2'.out
      go_region_with (refine (cP2.out 1).mono ?_; rintro e w3 hrd; obtain ⟨y', p1, p2, m1, k1, m2, k2, rfl, hR, hE, hK⟩ := rd_split hrd; obtain ⟨_, v0, v1, v2, v3, v4, v5⟩ := (Y2'.out.drewN 1).block (hK.block b5 hb5w.out hb5d) hK.size; unfold exV)
      all_goals
        have al2 := alloc_at w3 (.cells #[.int .i64 y.d.op, .string (tx y.d.nm), .slice q1 n1 c1, .int .i64 y.d.lo, .int .i64 y.d.hi, .slice q2 n2 c2, .int .i64 y'.d.op, .string (tx y'.d.nm), .slice p1 m1 k1, .int .i64 y'.d.lo, .int .i64 y'.d.hi, .slice p2 m2 k2] 25)
        have hrow := erow_lit (b4 + 1) w3 [(y, .slice q1 n1 c1, .slice q2 n2 c2), (y', .slice p1 m1 k1, .slice p2 m2 k2)] (by have := hb4w.out; have h9 := hK.size; have h8 : (w2.drewN 1).heap.size = w2.heap.size := rfl; omega) (by simp)
        have hcs : (fl6 [(y, .slice q1 n1 c1, .slice q2 n2 c2), (y', .slice p1 m1 k1, .slice p2 m2 k2)]).toArray = #[.int .i64 y.d.op, .string (tx y.d.nm), .slice q1 n1 c1, .int .i64 y.d.lo, .int .i64 y.d.hi, .slice q2 n2 c2, .int .i64 y'.d.op, .string (tx y'.d.nm), .slice p1 m1 k1, .int .i64 y'.d.lo, .int .i64 y'.d.hi, .slice p2 m2 k2] := by simp [fl6, six]
        rw [hcs] at hrow
        have hj := Lib.hid (show JInv B d v L w b4 i wAnd 7 one X (.slice (some ⟨w3.heap.size, 0, none⟩) 2 2) _ (one (rs (j + 1))).1 [(y, .slice q1 n1 c1, .slice q2 n2 c2), (y', .slice p1 m1 k1, .slice p2 m2 k2)] from {
          st := hS1.out.trans ((step_go (rs j)).trans (hst.out (rs (j + 1))))
          ge := by have h7 : j + 1 ≤ (one (rs (j + 1))).1.at' := hm.out (rs (j + 1)); omega
          len := fun _ => by have h7 : j + 1 ≤ (one (rs (j + 1))).1.at' := hm.out (rs (j + 1)); show 2 ≤ _; omega
          rd := hR.keep al2
          row := hrow
          ok := fun he => by
            obtain ⟨e1, s1, s2⟩ := hE he
            obtain ⟨e0, hp0⟩ := hE3.out
            refine ⟨PartsS.append (P := [(y, .slice q1 n1 c1, .slice q2 n2 c2)]) (Q := [(y', .slice p1 m1 k1, .slice p2 m2 k2)]) ?_ (PartsS.one ?_ ?_), ?_⟩
            · refine hp0.frame fun b hs hl => ⟨⟨hs, ?_⟩, ?_⟩
              · intro e; have e2 : w3.heap.size = b := Option.some.inj e; have h9 : w2.heap.size ≤ w3.heap.size := hK.size; omega
              · have h9 : w2.heap.size ≤ w3.heap.size := hK.size
                have hs' : b4 < b := hs
                rw [al2.block b (by omega)]; exact hK.block b hl (by omega)
            · refine s1.frame fun b hs hl => ⟨⟨by have h8 : w2.heap.size ≤ b := hs; have := hb4w.out; omega, ?_⟩, al2.block b hl⟩
              intro e; have e2 : w3.heap.size = b := Option.some.inj e; omega
            · refine s2.frame fun b hs hl => ⟨⟨by have h8 : w2.heap.size ≤ b := hs; have := hb4w.out; omega, ?_⟩, al2.block b hl⟩
              intro e; have e2 : w3.heap.size = b := Option.some.inj e; omega
            · rw [hX3.out, map_two]; simp only; rw [e0, e1]; rfl
          no := fun he => by
            rw [hX3.out]
            exact (step_restJ (toks L) wAnd 7 one hst.out _ _).sim he
          kept := ((K2.out.trans ((Kept.refl d w2).drewN 1)).trans hK).trans (Kept.of_below al2)
          res := (X2.out.block (hK.block b4 hb4w.out hbd) hK.size).keep al2 })
        clear hR hE hK al2 hrow hcs z0 z1 z2 z3 z4 z5 v0 v1 v2 v3 v4 v5
        go_wp2_with fail
        go_meet
        case rel => exact ⟨_, _, rfl, by simp, by simp, hj⟩
    case rest =>
      obtain ⟨r, P, hln, hl2, hl5, hJ⟩ := hcut
      clear K2 X2 Y2' hb5w hE3 hM1 R2 hS1 hX3 cP2 hb4w hb5d
      go_wp2_with fail
      go_loopw [6] (fun x6 wr => ∃ (r : Rs) (P : List Px), lenOf x6 = P.length ∧ 2 ≤ P.length ∧ P.length ≤ 500002 ∧ Hid (JInv B d v L w b4 i wAnd 7 one X x6 wr r P)) (fun x6 _ => 1000000 - lenOf x6)
      case atStart => exact ⟨r, P, hln, hl2, hl5, hJ⟩
      case round =>
        clear hln hl2 hl5 hJ
        obtain ⟨r, P, hln, hl2, hl5, hJ⟩ := hrel
        have cT1 := Lib.hid (cT.out (sim r) wr hJ.out.rd)
        have g1 := hop'.out wr hJ.out.rd.ops
        unfold TakeOut at cT1
        have hno := Lib.hid (fun h => toks_eq L (sim r) wAnd h)
        have hye := Lib.hid (show takeB (toks L) (sim r) 1 wAnd = true → r.e = 0 ∧ isB (toks L) r 1 wAnd = true ∧ takeS (toks L) (sim r) 1 wAnd = (r.at' + 1, 0) from fun h => by
          have e := take_err h
          refine ⟨e, by rw [← take_at hJ.out.st e]; exact h, ?_⟩
          unfold takeS; rw [if_pos h, sim_ok e]; rfl)
        have hfi := Lib.hid (fun hb => hJ.out.fin hl2 hb)
        generalize takeS (toks L) (sim r) 1 wAnd = s1 at *
        generalize takeB (toks L) (sim r) 1 wAnd = bt at *
        obtain ⟨p6, c6, rfl, _⟩ := hJ.out.row.form
        go_wp2_with fail
        refine cT1.out.mono ?_; rintro e w2 ⟨rfl, hR, hK⟩
        have hb4r := Lib.hid hJ.out.res.at_.1
        have R2 := Lib.hid hR
        have Kq := Lib.hid hK
        clear hR hK cT1 g1
        cases bt with
        | false =>
          have hs := hno.out rfl
          subst hs
          have X2 := hJ.out.res.kept Kq.out hbd
          have hrow2 : ERow (b4 + 1) w2 (.slice p6 P.length c6) P := own_block hJ.out.row fun g hg => by have := hJ.out.row.block g hg; exact Kq.out.block g this.2 (by omega)
          have hf := Lib.hid (hfi.out rfl p6 P.length c6 rfl hbw.out hBw R2.out hrow2 (fun he => (hJ.out.ok he).1.frame fun b hs hl => ⟨hs, Kq.out.block b hl (by have := hs.1; omega)⟩) (hJ.out.kept.trans Kq.out))
          have hset := Lib.hid (X2.set ⟨7, [], [], 0, 0⟩ (.slice none 0 0) (.slice p6 P.length c6))
          obtain ⟨⟨_, y0, y1, y2, y3, y4, y5⟩, f0, f1, f2, f3, f4, f5⟩ := X2
          clear hrow2 hfi hye hno R2 Kq hJ hb4r cP cT hop' hm hst hl2
          generalize P.length = np at *
          go_wp2_with fail
          refine (show bodyPost _ _ _ _ _ (setEx w2 b4 ⟨7, [], [], 0, 0⟩ (.slice none 0 0) (.slice p6 np c6)) from ?_)
          clear y0 y1 y2 y3 y4 y5 f0 f1 f2 f3 f4 f5
          generalize setEx w2 b4 ⟨7, [], [], 0, 0⟩ (.slice none 0 0) (.slice p6 np c6) = W9 at *
          obtain ⟨_, q0, q1', q2', q3, q4, q5⟩ := hset.out
          exact bodyPost_ret (v := exV ⟨7, [], [], 0, 0⟩ (.slice none 0 0) (.slice p6 np c6)) (by simp [results, Tryz.results52, go_sem, q0, q1', q2', q3, q4, q5, exV]) rfl hf.out
        | true =>
          obtain ⟨he0, his, hs⟩ := hye.out rfl
          subst hs
          have hge := hJ.out.ge
          have hstp := Lib.hid hJ.out.st
          have hle := hJ.out.len he0
          have hid := R2.out.idx
          have hlen5 := R2.out.len
          have hr := hJ.out.st.rs he0
          obtain ⟨hp0, hx0⟩ := hJ.out.ok he0
          have hP0 := Lib.hid hp0
          have hX0 := Lib.hid (hx0.symm.trans (restJ_step (toks L) wAnd 7 one hm.out r _ he0 his))
          have cP2 := Lib.hid (cP.out (r.at' + 1) (by omega) w2 R2.out)
          have hgo : r.go = rs (r.at' + 1) := by rw [hr]; rfl
          rw [hgo] at hX0
          have hmz : r.at' + 1 ≤ (one (rs (r.at' + 1))).1.at' := hm.out (rs (r.at' + 1))
          have hsz := Lib.hid (show Step (rs i) (one (rs (r.at' + 1))).1 from hstp.out.trans ((step_go r).trans (by rw [hgo]; exact hst.out (rs (r.at' + 1)))))
          have hsr := Lib.hid (fun l => step_restJ (toks L) wAnd 7 one hst.out (one (rs (r.at' + 1))).1 l)
          simp only at hid
          clear hfi hye hno hp0 hx0 hgo his
          generalize one (rs (r.at' + 1)) = Z at *
          go_wp2_with fail
          refine cP2.out.mono ?_; rintro e w3 hrd
          obtain ⟨y', p1, p2, m1, k1, m2, k2, rfl, hR, hE, hK⟩ := rd_split hrd
          have hb23 : w2.heap.size ≤ w3.heap.size := hK.size
          have hbr2 : wr.heap.size ≤ w2.heap.size := Kq.out.size
          have hrow3 : ERow (b4 + 1) w3 (.slice p6 P.length c6) P := own_block hJ.out.row fun g hg => by
            have := hJ.out.row.block g hg
            rw [hK.block g (by omega) (by omega)]; exact Kq.out.block g this.2 (by omega)
          have hown := Lib.hid (hJ.out.row.block)
          have hparts : PartsS (S6 b4 (.slice p6 P.length c6)) w3 P := hP0.out.frame fun b hs hl => ⟨hs, by
            have := hs.1
            rw [hK.block b (by omega) (by omega)]; exact Kq.out.block b hl (by omega)⟩
          have hnew : Z.1.e = 0 → y' = Z.2 ∧ PartsS (S6 b4 (.slice p6 P.length c6)) w3 [(y', .slice p1 m1 k1, .slice p2 m2 k2)] := fun he => by
            obtain ⟨e1, s1, s2⟩ := hE he
            have hq : ∀ b, w2.heap.size ≤ b → S6 b4 (.slice p6 P.length c6) b := fun b hb => ⟨by have := hb4r.out; omega, fun e => by have := (hown.out b e).2; omega⟩
            exact ⟨e1, PartsS.one (s1.mono fun b hs _ => hq b hs) (s2.mono fun b hs _ => hq b hs)⟩
          have hN := Lib.hid hnew
          have hPt := Lib.hid hparts
          have hRw := Lib.hid hrow3
          have R3 := Lib.hid hR
          have K3 := Lib.hid ((hJ.out.kept.trans Kq.out).trans hK)
          have X3 := Lib.hid ((hJ.out.res.kept Kq.out hbd).kept hK hbd)
          have hb43 : b4 + 1 ≤ w3.heap.size := by have := hb4r.out; omega
          clear hR hE hK hrd hnew hparts hrow3 hJ Kq R2 hP0 cP2
          unfold exV
          go_wp2_with (at_builtin; refine wpList_append_ex1 (w := w3) rfl (.tmp 29) (.tmp 33) rfl (b4 + 1) (.slice p6 P.length c6) P rfl hRw.out y'.d y'.kids p1 p2 m1 k1 m2 k2 rfl (by omega) hb43 ?_; intro g9 c9 w9 hown9 hgrow hat9; refine Hid.out ?_)
          refine Lib.hid ?_
          have hbase : ∀ b, b < b4 + 1 → w9.heap[b]? = w3.heap[b]? := fun b hb => hgrow.block b (by omega) (fun e => by have := (hown.out b e.symm).1; omega)
          have hj := Lib.hid (show JInv B d v L w b4 i wAnd 7 one X (.slice (some ⟨g9, 0, none⟩) (P.length + 1) c9) w9 Z.1 (P ++ [(y', .slice p1 m1 k1, .slice p2 m2 k2)]) from {
            st := hsz.out
            ge := by omega
            len := fun _ => by simp; omega
            rd := R3.out.frame (fun b hb => hbase b (by omega)) hgrow.size
            row := hown9
            ok := fun he => by
              obtain ⟨e1, hq⟩ := hN.out he
              refine ⟨parts_app hPt.out hq hgrow rfl hat9, ?_⟩
              rw [hX0.out, List.map_append, ← e1]; rfl
            no := fun he => by rw [hX0.out]; exact (hsr.out _).sim he
            kept := K3.out.grown hgrow (fun g hg => by have := (hown.out g hg).1; have := hbw.out; omega)
            res := X3.out.block (hbase b4 (by omega)) hgrow.size })
          clear hown9 hgrow hat9 hbase hN hPt hRw R3 K3 X3 hsz hsr hX0 hstp hown hb4r hr
          go_wp2_with fail
          go_roundw
          case rel => exact ⟨Z.1, P ++ [(y', .slice p1 m1 k1, .slice p2 m2 k2)], by simp [lenOf], by simp; omega, by simp; omega, hj⟩
          case measure => simp only [lenOf]; omega
set_option maxRecDepth 8000 in
set_option maxHeartbeats 16000000 in
theorem joined_8 (B d : Nat) (v : Value) (L : List Tk) (i : Nat) (hP : ∀ j, i ≤ j → Reads1 B d v L 82 #[.pointer (some ⟨d, 0, none⟩), .int .i64 8] (bothR (toks L) (eitherR (toks L))) j) :
    Reads1 B d v L 52 #[.pointer (some ⟨d, 0, none⟩), .int .i64 8] (joinR (toks L) wOr 8 (bothR (toks L) (eitherR (toks L)))) i := by
  intro w h
  have hdB := h.lt
  have hBw := h.le
  have al := alloc_at w zx
  have R0 := Lib.hid (h.keep al)
  have X0 := Lib.hid (XF.new w n0 (.slice none 0 0) (.slice none 0 0))
  have K0 := Lib.hid (Kept.of_below (d := d) al)
  have hm := Lib.hid (both_at (toks L))
  have hst := Lib.hid (step_both (toks L))
  have cP := Lib.hid hP
  unfold Reads1 at cP
  have cT := Lib.hid (fun s w h => takesWord_any B d v L s wOr w h)
  have hop : ∀ w, OpsAt w → w.cell? ⟨0, 48, none⟩ = some (.string (tx wOr)) := fun w h => (h 8 (by decide)).1
  have hop' := Lib.hid hop
  clear h hop hP
  generalize bothR (toks L) (eitherR (toks L)) = one at *
  obtain ⟨X, hXX⟩ : ∃ X, joinR (toks L) wOr 8 one (rs i) = X := ⟨_, rfl⟩
  rw [hXX]
  have hX0 := Lib.hid hXX
  clear hXX
  go_enter Tryz.func52, Tryz.ntmps52
  go_upto_region 1 with fail
  obtain ⟨b4, hb4⟩ : ∃ b, w.heap.size = b := ⟨_, rfl⟩
  rw [hb4] at X0 ⊢
  have hbw := Lib.hid (show w.heap.size ≤ b4 from by omega)
  have hbd : b4 ≠ d := by omega
  have hBb : B ≤ b4 := by omega
  clear hb4 al
  have hzx : (Obj.cells #[.int .i64 0, .string { data := #[] }, .slice none 0 0, .int .i64 0, .int .i64 0, .slice none 0 0] 25) = zx := rfl
  rw [hzx]
  generalize w.alloc zx = W0 at *
  clear hzx
  go_wp2_with fail
  refine (cP.out i (Nat.le_refl i) W0 R0.out).mono ?_; rintro e w1 hrd
  obtain ⟨y, q1, q2, n1, c1, n2, c2, rfl, hR, hE, hK⟩ := rd_split hrd
  have al := alloc_at w1 (xo y.d (.slice q1 n1 c1) (.slice q2 n2 c2))
  have R1 := Lib.hid (hR.keep al)
  have K1 := Lib.hid ((K0.out.trans hK).trans (Kept.of_below al))
  have X1 := Lib.hid ((X0.out.kept hK hbd).keep al)
  have hlt0 := X0.out.at_.1
  have E1 := Lib.hid (fun he => show y = (one (rs i)).2 ∧ PartsS (fun b => b4 < b) (w1.alloc (xo y.d (.slice q1 n1 c1) (.slice q2 n2 c2))) [(y, .slice q1 n1 c1, .slice q2 n2 c2)] from by
    obtain ⟨h1, h2, h3⟩ := hE he
    exact ⟨h1, PartsS.one ((h2.below al).mono fun b hb _ => by omega) ((h3.below al).mono fun b hb _ => by omega)⟩)
  have Y1 := XAt.new w1 y.d (.slice q1 n1 c1) (.slice q2 n2 c2)
  have hb5d : w1.heap.size ≠ d := by have := hR.le; have := hR.lt; omega
  clear hR hE hK K0 X0 R0 hrd al hlt0
  unfold exV
  go_upto_region 2 with fail
  obtain ⟨b5, hb5⟩ : ∃ b, w1.heap.size = b := ⟨_, rfl⟩
  rw [hb5] at Y1 hb5d ⊢
  clear hb5
  generalize w1.alloc (xo y.d (.slice q1 n1 c1) (.slice q2 n2 c2)) = W1 at *
  have Y1' := Lib.hid Y1
  have hS1 := Lib.hid (hst.out (rs i))
  have hM1 := Lib.hid (hm.out (rs i))
  have hX := Lib.hid (hX0.out.symm.trans (join_start (toks L) wOr 8 one (rs i)))
  clear hX0 Y1
  generalize one (rs i) = Y at *
  obtain ⟨Y1r, Y2e⟩ := Y
  simp only at hM1 hS1 R1 E1 hX
  have cT1 := Lib.hid (cT.out (sim Y1r) W1 R1.out)
  have g1 := hop'.out W1 R1.out.ops
  have hno := Lib.hid (fun h => toks_eq L (sim Y1r) wOr h)
  have hye := Lib.hid (show takeB (toks L) (sim Y1r) 1 wOr = true → Y1r.e = 0 ∧ isB (toks L) Y1r 1 wOr = true ∧ takeS (toks L) (sim Y1r) 1 wOr = (Y1r.at' + 1, 0) from fun h => by
    have e := take_err h
    refine ⟨e, by rw [← take_at hS1.out e]; exact h, ?_⟩
    unfold takeS; rw [if_pos h, sim_ok e]; rfl)
  have hne := Lib.hid (show takeB (toks L) (sim Y1r) 1 wOr = false → X = (Y1r, Y2e) from fun h => by
    rw [hX.out, restJ_stop _ _ _ _ _ _ (fun e => by rw [take_at hS1.out e.1, e.2] at h; cases h)]
    rfl)
  unfold TakeOut at cT1
  clear R1
  generalize takeS (toks L) (sim Y1r) 1 wOr = s1 at *
  generalize takeB (toks L) (sim Y1r) 1 wOr = bt at *
  go_wp2_with fail
  refine cT1.out.mono ?_; rintro e w2 ⟨rfl, hR, hK⟩
  have K2 := Lib.hid (K1.out.trans hK)
  have X2 := Lib.hid (X1.out.kept hK hbd)
  have Y2' := Lib.hid (Y1'.out.block (hK.block b5 Y1'.out.1 hb5d) hK.size)
  have E2 := Lib.hid (fun he => (⟨(E1.out he).1, (E1.out he).2.frame fun b hs hl => ⟨hs, hK.block b hl (by omega)⟩⟩ : y = Y2e ∧ PartsS (fun b => b4 < b) w2 [(y, .slice q1 n1 c1, .slice q2 n2 c2)]))
  have R2 := Lib.hid hR
  have hb5w := Lib.hid (show b5 < w2.heap.size from Y2'.out.1)
  have hb4w := Lib.hid (show b4 < w2.heap.size from X2.out.at_.1)
  clear hR hK K1 X1 Y1' E1 cT1 g1
  cases bt with
  | false =>
    have hXe := Lib.hid (hne.out rfl)
    have hs := hno.out rfl
    subst hs
    obtain ⟨_, z0, z1, z2, z3, z4, z5⟩ := Y2'.out
    have hf := Lib.hid (rd_fin (X := X) (x := y.d) (q1 := q1) (q2 := q2) (n1 := n1) (c1 := c1) (n2 := n2) (c2 := c2) hbw.out hBw (by rw [hXe.out]; exact R2.out) K2.out (fun he => by
      rw [hXe.out] at he ⊢
      obtain ⟨h1, h2⟩ := E2.out he
      obtain ⟨p1, p2⟩ := h2 _ (List.mem_singleton.2 rfl)
      simp only at p1 p2
      rw [← h1]
      have := hbw.out
      exact ⟨_, _, rfl, p1.mono fun b hb _ => ⟨by omega, by omega⟩, p2.mono fun b hb _ => ⟨by omega, by omega⟩⟩))
    have hset := Lib.hid (X2.out.set y.d (.slice q1 n1 c1) (.slice q2 n2 c2))
    obtain ⟨⟨_, y0, y1, y2, y3, y4, y5⟩, f0, f1, f2, f3, f4, f5⟩ := X2.out
    clear hb4w K2 X2 Y2' E2 R2 hXe hno hye hne hX hS1 hM1 cP cT hop' hm hst
    go_wp2_with fail
    refine (show bodyPost _ _ _ _ _ (setEx w2 b4 y.d (.slice q1 n1 c1) (.slice q2 n2 c2)) from ?_)
    clear y0 y1 y2 y3 y4 y5 f0 f1 f2 f3 f4 f5 z0 z1 z2 z3 z4 z5
    generalize setEx w2 b4 y.d (.slice q1 n1 c1) (.slice q2 n2 c2) = W9 at *
    obtain ⟨_, q0, q1', q2', q3, q4, q5⟩ := hset.out
    exact bodyPost_ret (v := exV y.d (.slice q1 n1 c1) (.slice q2 n2 c2)) (by simp [results, Tryz.results52, go_sem, q0, q1', q2', q3, q4, q5, exV]) rfl hf.out
  | true =>
    obtain ⟨he0, his, hs⟩ := hye.out rfl
    subst hs
    have hr := hS1.out.rs he0
    have hE3 := Lib.hid (E2.out he0)
    have hat : i ≤ Y1r.at' := hM1.out
    generalize Y1r.at' = j at *
    subst hr
    have hX3 := Lib.hid (hX.out.trans (restJ_step (toks L) wOr 8 one hm.out (rs j) [Y2e] rfl his))
    clear hno hye hne hX E2 his he0
    have cP2 := Lib.hid (fun n => cP.out (j + 1) (by omega) (w2.drewN n) (R2.out.drewN n))
    go_upto_region 4 with fail
    go_cut [6] (fun x6 wx => ∃ (r : Rs) (P : List Px), lenOf x6 = P.length ∧ 2 ≤ P.length ∧ P.length ≤ 500002 ∧ Hid (JInv B d v L w b4 i wOr 8 one X x6 wx r P))
    case first =>
      obtain ⟨_, z0, z1, z2, z3, z4, z5⟩ := Y2'.out
      go_region_with (refine (cP2.out 1).mono ?_; rintro e w3 hrd; obtain ⟨y', p1, p2, m1, k1, m2, k2, rfl, hR, hE, hK⟩ := rd_split hrd; obtain ⟨_, v0, v1, v2, v3, v4, v5⟩ := (Y2'.out.drewN 1).block (hK.block b5 hb5w.out hb5d) hK.size; unfold exV)
      all_goals
        have al2 := alloc_at w3 (.cells #[.int .i64 y.d.op, .string (tx y.d.nm), .slice q1 n1 c1, .int .i64 y.d.lo, .int .i64 y.d.hi, .slice q2 n2 c2, .int .i64 y'.d.op, .string (tx y'.d.nm), .slice p1 m1 k1, .int .i64 y'.d.lo, .int .i64 y'.d.hi, .slice p2 m2 k2] 25)
        have hrow := erow_lit (b4 + 1) w3 [(y, .slice q1 n1 c1, .slice q2 n2 c2), (y', .slice p1 m1 k1, .slice p2 m2 k2)] (by have := hb4w.out; have h9 := hK.size; have h8 : (w2.drewN 1).heap.size = w2.heap.size := rfl; omega) (by simp)
        have hcs : (fl6 [(y, .slice q1 n1 c1, .slice q2 n2 c2), (y', .slice p1 m1 k1, .slice p2 m2 k2)]).toArray = #[.int .i64 y.d.op, .string (tx y.d.nm), .slice q1 n1 c1, .int .i64 y.d.lo, .int .i64 y.d.hi, .slice q2 n2 c2, .int .i64 y'.d.op, .string (tx y'.d.nm), .slice p1 m1 k1, .int .i64 y'.d.lo, .int .i64 y'.d.hi, .slice p2 m2 k2] := by simp [fl6, six]
        rw [hcs] at hrow
        have hj := Lib.hid (show JInv B d v L w b4 i wOr 8 one X (.slice (some ⟨w3.heap.size, 0, none⟩) 2 2) _ (one (rs (j + 1))).1 [(y, .slice q1 n1 c1, .slice q2 n2 c2), (y', .slice p1 m1 k1, .slice p2 m2 k2)] from {
          st := hS1.out.trans ((step_go (rs j)).trans (hst.out (rs (j + 1))))
          ge := by have h7 : j + 1 ≤ (one (rs (j + 1))).1.at' := hm.out (rs (j + 1)); omega
          len := fun _ => by have h7 : j + 1 ≤ (one (rs (j + 1))).1.at' := hm.out (rs (j + 1)); show 2 ≤ _; omega
          rd := hR.keep al2
          row := hrow
          ok := fun he => by
            obtain ⟨e1, s1, s2⟩ := hE he
            obtain ⟨e0, hp0⟩ := hE3.out
            refine ⟨PartsS.append (P := [(y, .slice q1 n1 c1, .slice q2 n2 c2)]) (Q := [(y', .slice p1 m1 k1, .slice p2 m2 k2)]) ?_ (PartsS.one ?_ ?_), ?_⟩
            · refine hp0.frame fun b hs hl => ⟨⟨hs, ?_⟩, ?_⟩
              · intro e; have e2 : w3.heap.size = b := Option.some.inj e; have h9 : w2.heap.size ≤ w3.heap.size := hK.size; omega
              · have h9 : w2.heap.size ≤ w3.heap.size := hK.size
                have hs' : b4 < b := hs
                rw [al2.block b (by omega)]; exact hK.block b hl (by omega)
            · refine s1.frame fun b hs hl => ⟨⟨by have h8 : w2.heap.size ≤ b := hs; have := hb4w.out; omega, ?_⟩, al2.block b hl⟩
              intro e; have e2 : w3.heap.size = b := Option.some.inj e; omega
            · refine s2.frame fun b hs hl => ⟨⟨by have h8 : w2.heap.size ≤ b := hs; have := hb4w.out; omega, ?_⟩, al2.block b hl⟩
              intro e; have e2 : w3.heap.size = b := Option.some.inj e; omega
            · rw [hX3.out, map_two]; simp only; rw [e0, e1]; rfl
          no := fun he => by
            rw [hX3.out]
            exact (step_restJ (toks L) wOr 8 one hst.out _ _).sim he
          kept := ((K2.out.trans ((Kept.refl d w2).drewN 1)).trans hK).trans (Kept.of_below al2)
          res := (X2.out.block (hK.block b4 hb4w.out hbd) hK.size).keep al2 })
        clear hR hE hK al2 hrow hcs z0 z1 z2 z3 z4 z5 v0 v1 v2 v3 v4 v5
        go_wp2_with fail
        go_meet
        case rel => exact ⟨_, _, rfl, by simp, by simp, hj⟩
    case rest =>
      obtain ⟨r, P, hln, hl2, hl5, hJ⟩ := hcut
      clear K2 X2 Y2' hb5w hE3 hM1 R2 hS1 hX3 cP2 hb4w hb5d
      go_wp2_with fail
      go_loopw [6] (fun x6 wr => ∃ (r : Rs) (P : List Px), lenOf x6 = P.length ∧ 2 ≤ P.length ∧ P.length ≤ 500002 ∧ Hid (JInv B d v L w b4 i wOr 8 one X x6 wr r P)) (fun x6 _ => 1000000 - lenOf x6)
      case atStart => exact ⟨r, P, hln, hl2, hl5, hJ⟩
      case round =>
        clear hln hl2 hl5 hJ
        obtain ⟨r, P, hln, hl2, hl5, hJ⟩ := hrel
        have cT1 := Lib.hid (cT.out (sim r) wr hJ.out.rd)
        have g1 := hop'.out wr hJ.out.rd.ops
        unfold TakeOut at cT1
        have hno := Lib.hid (fun h => toks_eq L (sim r) wOr h)
        have hye := Lib.hid (show takeB (toks L) (sim r) 1 wOr = true → r.e = 0 ∧ isB (toks L) r 1 wOr = true ∧ takeS (toks L) (sim r) 1 wOr = (r.at' + 1, 0) from fun h => by
          have e := take_err h
          refine ⟨e, by rw [← take_at hJ.out.st e]; exact h, ?_⟩
          unfold takeS; rw [if_pos h, sim_ok e]; rfl)
        have hfi := Lib.hid (fun hb => hJ.out.fin hl2 hb)
        generalize takeS (toks L) (sim r) 1 wOr = s1 at *
        generalize takeB (toks L) (sim r) 1 wOr = bt at *
        obtain ⟨p6, c6, rfl, _⟩ := hJ.out.row.form
        go_wp2_with fail
        refine cT1.out.mono ?_; rintro e w2 ⟨rfl, hR, hK⟩
        have hb4r := Lib.hid hJ.out.res.at_.1
        have R2 := Lib.hid hR
        have Kq := Lib.hid hK
        clear hR hK cT1 g1
        cases bt with
        | false =>
          have hs := hno.out rfl
          subst hs
          have X2 := hJ.out.res.kept Kq.out hbd
          have hrow2 : ERow (b4 + 1) w2 (.slice p6 P.length c6) P := own_block hJ.out.row fun g hg => by have := hJ.out.row.block g hg; exact Kq.out.block g this.2 (by omega)
          have hf := Lib.hid (hfi.out rfl p6 P.length c6 rfl hbw.out hBw R2.out hrow2 (fun he => (hJ.out.ok he).1.frame fun b hs hl => ⟨hs, Kq.out.block b hl (by have := hs.1; omega)⟩) (hJ.out.kept.trans Kq.out))
          have hset := Lib.hid (X2.set ⟨8, [], [], 0, 0⟩ (.slice none 0 0) (.slice p6 P.length c6))
          obtain ⟨⟨_, y0, y1, y2, y3, y4, y5⟩, f0, f1, f2, f3, f4, f5⟩ := X2
          clear hrow2 hfi hye hno R2 Kq hJ hb4r cP cT hop' hm hst hl2
          generalize P.length = np at *
          go_wp2_with fail
          refine (show bodyPost _ _ _ _ _ (setEx w2 b4 ⟨8, [], [], 0, 0⟩ (.slice none 0 0) (.slice p6 np c6)) from ?_)
          clear y0 y1 y2 y3 y4 y5 f0 f1 f2 f3 f4 f5
          generalize setEx w2 b4 ⟨8, [], [], 0, 0⟩ (.slice none 0 0) (.slice p6 np c6) = W9 at *
          obtain ⟨_, q0, q1', q2', q3, q4, q5⟩ := hset.out
          exact bodyPost_ret (v := exV ⟨8, [], [], 0, 0⟩ (.slice none 0 0) (.slice p6 np c6)) (by simp [results, Tryz.results52, go_sem, q0, q1', q2', q3, q4, q5, exV]) rfl hf.out
        | true =>
          obtain ⟨he0, his, hs⟩ := hye.out rfl
          subst hs
          have hge := hJ.out.ge
          have hstp := Lib.hid hJ.out.st
          have hle := hJ.out.len he0
          have hid := R2.out.idx
          have hlen5 := R2.out.len
          have hr := hJ.out.st.rs he0
          obtain ⟨hp0, hx0⟩ := hJ.out.ok he0
          have hP0 := Lib.hid hp0
          have hX0 := Lib.hid (hx0.symm.trans (restJ_step (toks L) wOr 8 one hm.out r _ he0 his))
          have cP2 := Lib.hid (cP.out (r.at' + 1) (by omega) w2 R2.out)
          have hgo : r.go = rs (r.at' + 1) := by rw [hr]; rfl
          rw [hgo] at hX0
          have hmz : r.at' + 1 ≤ (one (rs (r.at' + 1))).1.at' := hm.out (rs (r.at' + 1))
          have hsz := Lib.hid (show Step (rs i) (one (rs (r.at' + 1))).1 from hstp.out.trans ((step_go r).trans (by rw [hgo]; exact hst.out (rs (r.at' + 1)))))
          have hsr := Lib.hid (fun l => step_restJ (toks L) wOr 8 one hst.out (one (rs (r.at' + 1))).1 l)
          simp only at hid
          clear hfi hye hno hp0 hx0 hgo his
          generalize one (rs (r.at' + 1)) = Z at *
          go_wp2_with fail
          refine cP2.out.mono ?_; rintro e w3 hrd
          obtain ⟨y', p1, p2, m1, k1, m2, k2, rfl, hR, hE, hK⟩ := rd_split hrd
          have hb23 : w2.heap.size ≤ w3.heap.size := hK.size
          have hbr2 : wr.heap.size ≤ w2.heap.size := Kq.out.size
          have hrow3 : ERow (b4 + 1) w3 (.slice p6 P.length c6) P := own_block hJ.out.row fun g hg => by
            have := hJ.out.row.block g hg
            rw [hK.block g (by omega) (by omega)]; exact Kq.out.block g this.2 (by omega)
          have hown := Lib.hid (hJ.out.row.block)
          have hparts : PartsS (S6 b4 (.slice p6 P.length c6)) w3 P := hP0.out.frame fun b hs hl => ⟨hs, by
            have := hs.1
            rw [hK.block b (by omega) (by omega)]; exact Kq.out.block b hl (by omega)⟩
          have hnew : Z.1.e = 0 → y' = Z.2 ∧ PartsS (S6 b4 (.slice p6 P.length c6)) w3 [(y', .slice p1 m1 k1, .slice p2 m2 k2)] := fun he => by
            obtain ⟨e1, s1, s2⟩ := hE he
            have hq : ∀ b, w2.heap.size ≤ b → S6 b4 (.slice p6 P.length c6) b := fun b hb => ⟨by have := hb4r.out; omega, fun e => by have := (hown.out b e).2; omega⟩
            exact ⟨e1, PartsS.one (s1.mono fun b hs _ => hq b hs) (s2.mono fun b hs _ => hq b hs)⟩
          have hN := Lib.hid hnew
          have hPt := Lib.hid hparts
          have hRw := Lib.hid hrow3
          have R3 := Lib.hid hR
          have K3 := Lib.hid ((hJ.out.kept.trans Kq.out).trans hK)
          have X3 := Lib.hid ((hJ.out.res.kept Kq.out hbd).kept hK hbd)
          have hb43 : b4 + 1 ≤ w3.heap.size := by have := hb4r.out; omega
          clear hR hE hK hrd hnew hparts hrow3 hJ Kq R2 hP0 cP2
          unfold exV
          go_wp2_with (at_builtin; refine wpList_append_ex1 (w := w3) rfl (.tmp 29) (.tmp 33) rfl (b4 + 1) (.slice p6 P.length c6) P rfl hRw.out y'.d y'.kids p1 p2 m1 k1 m2 k2 rfl (by omega) hb43 ?_; intro g9 c9 w9 hown9 hgrow hat9; refine Hid.out ?_)
          refine Lib.hid ?_
          have hbase : ∀ b, b < b4 + 1 → w9.heap[b]? = w3.heap[b]? := fun b hb => hgrow.block b (by omega) (fun e => by have := (hown.out b e.symm).1; omega)
          have hj := Lib.hid (show JInv B d v L w b4 i wOr 8 one X (.slice (some ⟨g9, 0, none⟩) (P.length + 1) c9) w9 Z.1 (P ++ [(y', .slice p1 m1 k1, .slice p2 m2 k2)]) from {
            st := hsz.out
            ge := by omega
            len := fun _ => by simp; omega
            rd := R3.out.frame (fun b hb => hbase b (by omega)) hgrow.size
            row := hown9
            ok := fun he => by
              obtain ⟨e1, hq⟩ := hN.out he
              refine ⟨parts_app hPt.out hq hgrow rfl hat9, ?_⟩
              rw [hX0.out, List.map_append, ← e1]; rfl
            no := fun he => by rw [hX0.out]; exact (hsr.out _).sim he
            kept := K3.out.grown hgrow (fun g hg => by have := (hown.out g hg).1; have := hbw.out; omega)
            res := X3.out.block (hbase b4 (by omega)) hgrow.size })
          clear hown9 hgrow hat9 hbase hN hPt hRw R3 K3 X3 hsz hsr hX0 hstp hown hb4r hr
          go_wp2_with fail
          go_roundw
          case rel => exact ⟨Z.1, P ++ [(y', .slice p1 m1 k1, .slice p2 m2 k2)], by simp [lenOf], by simp; omega, by simp; omega, hj⟩
          case measure => simp only [lenOf]; omega
end Go.Proofs.YtjmipikahaoblaaGreatDoor.Syn
namespace Go.Proofs.YtjmipikahaoblaaGreatDoor.Syn
open Go.RowKit Go.Lib Go.Proofs.YtjmipikahaoblaaGreatDoor.Bas Go.Proofs.YtjmipikahaoblaaGreatDoor.Cal Go.Proofs.YtjmipikahaoblaaGreatDoor.Lx Go.Proofs.YtjmipikahaoblaaGreatDoor.Sc Go.Proofs.YtjmipikahaoblaaGreatDoor.Dk
set_option linter.unusedVariables false

set_option maxRecDepth 8000 in
set_option maxHeartbeats 8000000 in
theorem part_7 (B d : Nat) (v : Value) (L : List Tk) (one : Rs → Rs × Ex) (i : Nat) (hS : Reads1 B d v L 122 #[.pointer (some ⟨d, 0, none⟩)] one i) :
    Reads1 B d v L 82 #[.pointer (some ⟨d, 0, none⟩), .int .i64 7] one i := by
  intro w h
  have hdB := h.lt
  have hBw := h.le
  have al := alloc_at w zx
  have X0 := Lib.hid (XF.new w n0 (.slice none 0 0) (.slice none 0 0))
  have K0 := Lib.hid (Kept.of_below (d := d) al)
  have cS := Lib.hid (hS (w.alloc zx) (h.keep al))
  clear h hS
  generalize one (rs i) = X at *
  go_enter Tryz.func82, Tryz.ntmps82
  go_upto_region 1 with fail
  obtain ⟨b4, hb4⟩ : ∃ b, w.heap.size = b := ⟨_, rfl⟩
  rw [hb4] at X0 ⊢
  have hbw := Lib.hid (show w.heap.size ≤ b4 from by omega)
  have hbd : b4 ≠ d := by omega
  clear hb4 al
  have hzx : (Obj.cells #[.int .i64 0, .string { data := #[] }, .slice none 0 0, .int .i64 0, .int .i64 0, .slice none 0 0] 25) = zx := rfl
  rw [hzx]
  generalize w.alloc zx = W0 at *
  clear hzx
  have hlt0 := Lib.hid X0.out.at_.1
  go_wp2_with fail
  refine cS.out.mono ?_; rintro e w1 ⟨u, rfl, hR, hE, ⟨x, q1, q2, n1, c1, n2, c2, rfl⟩, hK⟩
  have X1 := X0.out.kept hK hbd
  have hf := Lib.hid (rd_fin (X := X) (x := x) (q1 := q1) (q2 := q2) (n1 := n1) (c1 := c1) (n2 := n2) (c2 := c2) hbw.out hBw hR (K0.out.trans hK) (fun he => (hE he).mono fun b hb _ => ⟨by have := hlt0.out; have := hbw.out; omega, by have := hlt0.out; omega⟩))
  have hset := Lib.hid (X1.set x (.slice q1 n1 c1) (.slice q2 n2 c2))
  obtain ⟨⟨_, y0, y1, y2, y3, y4, y5⟩, f0, f1, f2, f3, f4, f5⟩ := X1
  clear hR hE hK X0 K0 cS
  unfold exV
  go_wp2_with fail
  refine (show bodyPost _ _ _ _ _ (setEx w1 b4 x (.slice q1 n1 c1) (.slice q2 n2 c2)) from ?_)
  clear y0 y1 y2 y3 y4 y5 f0 f1 f2 f3 f4 f5
  generalize setEx w1 b4 x (.slice q1 n1 c1) (.slice q2 n2 c2) = W9 at *
  obtain ⟨_, q0, q1', q2', q3, q4, q5⟩ := hset.out
  exact bodyPost_ret (v := exV x (.slice q1 n1 c1) (.slice q2 n2 c2)) (by simp [results, Tryz.results82, go_sem, q0, q1', q2', q3, q4, q5, exV]) rfl hf.out
set_option maxRecDepth 8000 in
set_option maxHeartbeats 8000000 in
theorem part_8 (B d : Nat) (v : Value) (L : List Tk) (one : Rs → Rs × Ex) (i : Nat) (hS : Reads1 B d v L 52 #[.pointer (some ⟨d, 0, none⟩), .int .i64 7] one i) :
    Reads1 B d v L 82 #[.pointer (some ⟨d, 0, none⟩), .int .i64 8] one i := by
  intro w h
  have hdB := h.lt
  have hBw := h.le
  have al := alloc_at w zx
  have X0 := Lib.hid (XF.new w n0 (.slice none 0 0) (.slice none 0 0))
  have K0 := Lib.hid (Kept.of_below (d := d) al)
  have cS := Lib.hid (hS (w.alloc zx) (h.keep al))
  clear h hS
  generalize one (rs i) = X at *
  go_enter Tryz.func82, Tryz.ntmps82
  go_upto_region 1 with fail
  obtain ⟨b4, hb4⟩ : ∃ b, w.heap.size = b := ⟨_, rfl⟩
  rw [hb4] at X0 ⊢
  have hbw := Lib.hid (show w.heap.size ≤ b4 from by omega)
  have hbd : b4 ≠ d := by omega
  clear hb4 al
  have hzx : (Obj.cells #[.int .i64 0, .string { data := #[] }, .slice none 0 0, .int .i64 0, .int .i64 0, .slice none 0 0] 25) = zx := rfl
  rw [hzx]
  generalize w.alloc zx = W0 at *
  clear hzx
  have hlt0 := Lib.hid X0.out.at_.1
  go_wp2_with fail
  refine cS.out.mono ?_; rintro e w1 ⟨u, rfl, hR, hE, ⟨x, q1, q2, n1, c1, n2, c2, rfl⟩, hK⟩
  have X1 := X0.out.kept hK hbd
  have hf := Lib.hid (rd_fin (X := X) (x := x) (q1 := q1) (q2 := q2) (n1 := n1) (c1 := c1) (n2 := n2) (c2 := c2) hbw.out hBw hR (K0.out.trans hK) (fun he => (hE he).mono fun b hb _ => ⟨by have := hlt0.out; have := hbw.out; omega, by have := hlt0.out; omega⟩))
  have hset := Lib.hid (X1.set x (.slice q1 n1 c1) (.slice q2 n2 c2))
  obtain ⟨⟨_, y0, y1, y2, y3, y4, y5⟩, f0, f1, f2, f3, f4, f5⟩ := X1
  clear hR hE hK X0 K0 cS
  unfold exV
  go_wp2_with fail
  refine (show bodyPost _ _ _ _ _ (setEx w1 b4 x (.slice q1 n1 c1) (.slice q2 n2 c2)) from ?_)
  clear y0 y1 y2 y3 y4 y5 f0 f1 f2 f3 f4 f5
  generalize setEx w1 b4 x (.slice q1 n1 c1) (.slice q2 n2 c2) = W9 at *
  obtain ⟨_, q0, q1', q2', q3, q4, q5⟩ := hset.out
  exact bodyPost_ret (v := exV x (.slice q1 n1 c1) (.slice q2 n2 c2)) (by simp [results, Tryz.results82, go_sem, q0, q1', q2', q3, q4, q5, exV]) rfl hf.out
theorem reads_all (B d : Nat) (v : Value) (L : List Tk) : ∀ (m i : Nat), L.length - i < m →
    Reads1 B d v L 122 #[.pointer (some ⟨d, 0, none⟩)] (negR (toks L) (eitherR (toks L))) i ∧ Reads1 B d v L 52 #[.pointer (some ⟨d, 0, none⟩), .int .i64 7] (bothR (toks L) (eitherR (toks L))) i ∧
    Reads1 B d v L 52 #[.pointer (some ⟨d, 0, none⟩), .int .i64 8] (eitherR (toks L)) i := by
  intro m
  induction m with
  | zero => intro i h; omega
  | succ m ih =>
    have hS : ∀ j, L.length - j < m + 1 → Reads1 B d v L 122 #[.pointer (some ⟨d, 0, none⟩)] (negR (toks L) (eitherR (toks L))) j := fun j hj =>
      single_step B d v L j (fun hl => (ih (j + 1) (by omega)).2.2) (fun hl => (ih (j + 1) (by omega)).1)
    have h7 : ∀ j, L.length - j < m + 1 → Reads1 B d v L 52 #[.pointer (some ⟨d, 0, none⟩), .int .i64 7] (bothR (toks L) (eitherR (toks L))) j := fun j hj =>
      joined_7 B d v L j fun k hk => part_7 B d v L _ k (hS k (by omega))
    intro i hi
    refine ⟨hS i hi, h7 i hi, ?_⟩
    have := joined_8 B d v L i fun k hk => part_8 B d v L _ k (h7 k (by omega))
    rw [either_step]
    exact this
/-- The reader reads what the reference reads. -/
theorem joined_all (B d : Nat) (v : Value) (L : List Tk) (i : Nat) (w : World) (h : RdAt B w d v L (i, 0)) : Calls Tryz.prog 52 #[.pointer (some ⟨d, 0, none⟩), .int .i64 8] w (RdOut B d v L (eitherR (toks L) (rs i)) w) :=
  (reads_all B d v L (L.length - i + 1) i (by omega)).2.2 w h
end Go.Proofs.YtjmipikahaoblaaGreatDoor.Syn
namespace Go.Proofs.YtjmipikahaoblaaGreatDoor.Syn
open Go.RowKit Go.Lib Go.Proofs.YtjmipikahaoblaaGreatDoor.Bas Go.Proofs.YtjmipikahaoblaaGreatDoor.Cal Go.Proofs.YtjmipikahaoblaaGreatDoor.Lx Go.Proofs.YtjmipikahaoblaaGreatDoor.Sc
set_option linter.unusedVariables false

/-- An expression that is read without an error has at most as many nodes as tokens were read. -/
def Small (L : List Tok) (n : Nat) (one : Rs → Rs × Ex) : Prop := ∀ r, L.length - r.at' < n → (one r).1.e = 0 → (one r).2.size + r.at' ≤ (one r).1.at'
def sumS : List Ex → Nat
  | [] => 0
  | e :: l => e.size + sumS l
theorem sumS_app (l m : List Ex) : sumS (l ++ m) = sumS l + sumS m := by
  induction l with
  | nil => simp [sumS]
  | cons e l ih => rw [List.cons_append, sumS, sumS, ih]; omega
theorem sizes_ofL (l : List Ex) : (Fo.ofL l).sizes = sumS l := by
  induction l with
  | nil => rfl
  | cons e l ih => rw [Fo.ofL, Fo.sizes, sumS, ih]; rfl
theorem joinF_small (L : List Tok) (w : List UInt8) (n : Nat) (one : Rs → Rs × Ex) (hs : Small L n one) (hS : Steps one) : ∀ (f : Nat) (r : Rs) (l : List Ex) (a : Nat), L.length - r.at' < n → (joinF L w one f r l).1.e = 0 → 1 ≤ l.length → sumS l + (l.length - 1) + a ≤ r.at' →
    sumS (joinF L w one f r l).2 + ((joinF L w one f r l).2.length - 1) + a ≤ (joinF L w one f r l).1.at' ∧ 1 ≤ (joinF L w one f r l).2.length
  | 0, r, l, a, _, _, h1, h => ⟨h, h1⟩
  | f + 1, r, l, a, hn, he, h1, h => by
    rw [joinF] at he ⊢
    split
    · rename_i hc
      rw [if_pos hc] at he
      have he2 : (one r.go).1.e = 0 := (step_joinF L w one hS f _ _).ok he
      have hg : r.go.at' = r.at' + 1 := rfl
      have h2 := hs r.go (by omega) he2
      exact joinF_small L w n one hs hS f _ _ a (by omega) he (by simp) (by rw [sumS_app]; simp [sumS]; omega)
    · exact ⟨h, h1⟩
theorem join_small (L : List Tok) (w : List UInt8) (op : Int) (n : Nat) (one : Rs → Rs × Ex) (hs : Small L n one) (hS : Steps one) : Small L n (joinR L w op one) := fun r hn he => by
  have he2 : (one r).1.e = 0 := (step_joinF L w one hS _ _ _).ok he
  have h0 := hs r hn he2
  obtain ⟨h1, h2⟩ := joinF_small L w n one hs hS (L.length + 1) (one r).1 [(one r).2] r.at' (by omega) he (by simp) (by simp [sumS]; omega)
  show (opE op (joinF L w one (L.length + 1) (one r).1 [(one r).2]).2).size + r.at' ≤ (joinF L w one (L.length + 1) (one r).1 [(one r).2]).1.at'
  generalize (joinF L w one (L.length + 1) (one r).1 [(one r).2]).2 = l at *
  by_cases hl : l.length = 1
  · obtain ⟨x, rfl⟩ := List.length_eq_one_iff.1 hl
    rw [opE_one]
    simp [sumS] at h1
    omega
  · rw [opE_len op l (by omega)]
    show 1 + (Fo.ofL l).sizes + r.at' ≤ _
    rw [sizes_ofL]
    omega
theorem nots_size (n : Nat) (e : Ex) : (nots n e).size = n + e.size := by
  induction n with
  | zero => simp [nots]
  | succ n ih =>
    rw [nots]
    show 1 + ((1 + (nots n e).kids.sizes) + 0) = _
    have : (nots n e).size = 1 + (nots n e).kids.sizes := rfl
    omega
theorem count_at (L : List Tok) : ∀ (f : Nat) (r : Rs), (countN L f r).2 + r.at' = (countN L f r).1.at'
  | 0, r => by simp [countN]
  | f + 1, r => by
    rw [countN]
    split
    · have := count_at L f r.go
      have hg : r.go.at' = r.at' + 1 := rfl
      simp only
      omega
    · simp
theorem leaf_size (d : Nd) : (⟨d, .nil⟩ : Ex).size = 1 := rfl
theorem name_go (L : List Tok) (r : Rs) (h0 : r.e = 0) (h : (nameR L r).1.e = 0) : (nameR L r).1.at' = r.at' + 1 := by
  unfold nameR at h ⊢
  rw [if_neg (by simp [h0])] at h ⊢
  split
  · rfl
  · rename_i hc
    rw [if_neg hc] at h
    simp [Rs.fail, h0] at h
theorem atom_small (L : List Tok) (n : Nat) (rec : Rs → Rs × Ex) (hs : Small L n rec) (hS : Steps rec) (hm : Mono rec) : ∀ r, L.length - r.at' < n + 1 → r.e = 0 → (atomR L rec r).1.e = 0 → (atomR L rec r).2.size + r.at' ≤ (atomR L rec r).1.at' := fun r hn h0 he => by
  by_cases h1 : isB L r 4 [40] = true
  · unfold atomR at he ⊢
    rw [if_neg (by simp [h0]), if_pos h1] at he ⊢
    have he2 : (rec r.go).1.e = 0 := (step_want L _ 4 [41]).ok he
    have hlt := is_lt h1
    have hg : r.go.at' = r.at' + 1 := rfl
    have h2 := hs r.go (by omega) he2
    have h3 := want_at L (rec r.go).1 4 [41]
    simp only
    omega
  · by_cases h2 : isB L r 1 wTrue = true
    · unfold atomR
      rw [if_neg (by simp [h0]), if_neg h1, if_pos h2]
      show 1 + r.at' ≤ r.at' + 1
      omega
    · by_cases h3 : isB L r 1 wFalse = true
      · unfold atomR
        rw [if_neg (by simp [h0]), if_neg h1, if_neg h2, if_pos h3]
        show 1 + r.at' ≤ r.at' + 1
        omega
      · rw [atom_named L rec r h0 (by simpa using h1) (by simpa using h2) (by simpa using h3)] at he ⊢
        have hx : Step (nameR L r).1 (namedR L r).1 ∧ (nameR L r).1.at' ≤ (namedR L r).1.at' ∧ (namedR L r).2.size = 1 := by
          unfold namedR
          simp only
          split
          · have a1 := wordsR_at L (nameR L r).1.go
            have hg : (nameR L r).1.go.at' = (nameR L r).1.at' + 1 := rfl
            exact ⟨(step_go _).trans (step_words L _), by show _ ≤ (wordsR L (nameR L r).1.go).1.at'; omega, rfl⟩
          · split
            · refine ⟨(step_go _).trans ((step_bound L _).trans ((step_want L _ 1 wTo).trans ((step_bound L _).trans ?_))), ?_, rfl⟩
              · split
                · exact step_fail _ 1 (by decide) _
                · exact Step.refl _
              · have a1 := boundR_at L (nameR L r).1.go
                have a2 := want_at L (boundR L (nameR L r).1.go).1 1 wTo
                have a3 := boundR_at L (want L (boundR L (nameR L r).1.go).1 1 wTo)
                have hg : (nameR L r).1.go.at' = (nameR L r).1.at' + 1 := rfl
                split
                · show _ ≤ ((boundR L (want L (boundR L (nameR L r).1.go).1 1 wTo)).1.fail 1 _).at'
                  rw [fail_at]; omega
                · show _ ≤ (boundR L (want L (boundR L (nameR L r).1.go).1 1 wTo)).1.at'
                  omega
            · exact ⟨Step.refl _, Nat.le_refl _, rfl⟩
        have := name_go L r h0 (hx.1.ok he)
        omega
theorem neg_small (L : List Tok) (n : Nat) (rec : Rs → Rs × Ex) (hs : Small L n rec) (hS : Steps rec) (hm : Mono rec) : Small L (n + 1) (negR L rec) := fun r hn he => by
  have h2 := count_at L (L.length + 1) r
  have hc : (countN L (L.length + 1) r).1.e = 0 := (step_atom L rec hS _).ok he
  have h1 := atom_small L n rec hs hS hm _ (by omega) hc he
  show (nots _ _).size + r.at' ≤ (atomR L rec (countN L (L.length + 1) r).1).1.at'
  rw [nots_size]
  omega
theorem eitherF_small (L : List Tok) : ∀ f, Small L f (eitherF L f)
  | 0 => fun r h => by omega
  | f + 1 => join_small L wOr 8 (f + 1) _ (join_small L wAnd 7 (f + 1) _ (neg_small L f _ (eitherF_small L f) (step_eitherF L f) (eitherF_at L f)) (step_neg L _ (step_eitherF L f))) (step_join L wAnd 7 _ (step_neg L _ (step_eitherF L f)))
theorem either_small (L : List Tok) (r : Rs) (he : (eitherR L r).1.e = 0) : (eitherR L r).2.size + r.at' ≤ (eitherR L r).1.at' := eitherF_small L _ r (by omega) he
end Go.Proofs.YtjmipikahaoblaaGreatDoor.Syn
