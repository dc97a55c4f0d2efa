/- The maker's expressions, of a depth more. -/
import Derived.Test.YtjmipikahaoblaaGreatDoorZ10
namespace Go.Proofs.YtjmipikahaoblaaGreatDoor.Syn
open Go.RowKit Go.Lib Go.Proofs.YtjmipikahaoblaaGreatDoor.Bas Go.Proofs.YtjmipikahaoblaaGreatDoor.Cal Go.Proofs.YtjmipikahaoblaaGreatDoor.Lx Go.Proofs.YtjmipikahaoblaaGreatDoor.Sc Go.Proofs.YtjmipikahaoblaaGreatDoor.Dk
set_option linter.unusedVariables false

theorem mk_not {n B d b : Nat} {v : Value} {l : List Int} {w w2 : World} {x : Ex} {q1 q2 : Option Addr} {n1 c1 n2 c2 : Nat} (hM : MadeB n x) (hb : w.heap.size ≤ b) (hdb : d < b) (hD : Deck B w2 d v l) (hK : Kept d w w2) (hE : ExS (fun g => w.heap.size ≤ g ∧ g ≠ b) w2 (exV x.d (.slice q1 n1 c1) (.slice q2 n2 c2)) x) (hX : XF w2 b n0 (.slice none 0 0) (.slice none 0 0)) :
    MkOut (n + 1) B d v l w (.returned (exV ⟨6, [], [], 0, 0⟩ (.slice none 0 0) (.slice (some ⟨w2.heap.size, 0, none⟩) 1 1))) ((setEx w2 b ⟨6, [], [], 0, 0⟩ (.slice none 0 0) (.slice (some ⟨w2.heap.size, 0, none⟩) 1 1)).alloc (xo x.d (.slice q1 n1 c1) (.slice q2 n2 c2))) ∧
    XAt ((setEx w2 b ⟨6, [], [], 0, 0⟩ (.slice none 0 0) (.slice (some ⟨w2.heap.size, 0, none⟩) 1 1)).alloc (xo x.d (.slice q1 n1 c1) (.slice q2 n2 c2))) b ⟨6, [], [], 0, 0⟩ (.slice none 0 0) (.slice (some ⟨w2.heap.size, 0, none⟩) 1 1) := by
  have hs := hX.set ⟨6, [], [], 0, 0⟩ (.slice none 0 0) (.slice (some ⟨w2.heap.size, 0, none⟩) 1 1)
  have hE1 : ExS (fun g => w.heap.size ≤ g) (setEx w2 b ⟨6, [], [], 0, 0⟩ (.slice none 0 0) (.slice (some ⟨w2.heap.size, 0, none⟩) 1 1)) (exV x.d (.slice q1 n1 c1) (.slice q2 n2 c2)) x := hE.frame fun g hg _ => ⟨hg.1, setEx_block _ _ _ _ _ _ hg.2⟩
  have hD1 := deck_setEx hD hdb ⟨6, [], [], 0, 0⟩ (.slice none 0 0) (.slice (some ⟨w2.heap.size, 0, none⟩) 1 1)
  have hK1 := kept_setEx hK hb ⟨6, [], [], 0, 0⟩ (.slice none 0 0) (.slice (some ⟨w2.heap.size, 0, none⟩) 1 1)
  have hsz := setEx_size w2 b ⟨6, [], [], 0, 0⟩ (.slice none 0 0) (.slice (some ⟨w2.heap.size, 0, none⟩) 1 1)
  have hw2 := hK.size
  generalize setEx w2 b ⟨6, [], [], 0, 0⟩ (.slice none 0 0) (.slice (some ⟨w2.heap.size, 0, none⟩) 1 1) = W1 at *
  have hf := fo_one hE1 (fun g => w.heap.size ≤ g) (fun _ h _ => h) (by omega)
  rw [hsz] at hf
  have al := alloc_at W1 (xo x.d (.slice q1 n1 c1) (.slice q2 n2 c2))
  exact ⟨⟨notE x, none, _, 0, 0, 1, 1, rfl, made_op 6 n [x] (fun e he => by obtain rfl := List.mem_singleton.1 he; exact hM) (.inl ⟨rfl, rfl⟩), ⟨_, _, rfl, strsS_nil _ _, hf⟩, hD1.below al, hK1.trans (Kept.of_below al)⟩, hs.keep al⟩
set_option maxRecDepth 8000 in
set_option maxHeartbeats 16000000 in
theorem mkexpr_step (B d : Nat) (v : Value) (l : List Int) (sv : Value) (L : List At) (nv : Value) (ns : List (List UInt8)) (n : Nat) (hn4 : n ≤ 4) (ih : 1 ≤ n → Makes n B d v l sv L nv ns)
    (hL : 1 ≤ L.length ∧ L.length ≤ 4) (hA : ∀ a ∈ L, AOk a) (h0 : 0 < ns.length) (hn : ns.length ≤ 1000) (hnok : ∀ x ∈ ns, nameB x = true ∧ x.length ≤ 7) : Makes (n + 1) B d v l sv L nv ns := by
  intro w hD hS hN
  have hdl := hD.lt
  have al := alloc_at w (.cells #[sv] 57)
  have al2 := alloc_at (w.alloc (.cells #[sv] 57)) zx
  have S0 := Lib.hid ((St.mk hD (Kept.refl d w) hS hN : St B d v l sv L nv ns w w).below (trans_b al al2))
  have O0 := Lib.hid ((OAt.new w sv 57).keep al2)
  have X0 := Lib.hid (XF.new (w.alloc (.cells #[sv] 57)) n0 (.slice none 0 0) (.slice none 0 0))
  rw [size_alloc1] at X0
  have hfin := Lib.hid (fun (W : World) (b : Nat) (x : Ex) (q1 q2 : Option Addr) (n1 c1 n2 c2 : Nat) (hM : MadeB (n + 1) x) (hb : w.heap.size ≤ b) (hdb : d < b) (hD : Deck B W d v l) (hK : Kept d w W) (hE : ExS (fun g => w.heap.size ≤ g ∧ g ≠ b) W (exV x.d (.slice q1 n1 c1) (.slice q2 n2 c2)) x) => mk_fin (n := n + 1) hM hb hdb hD hK hE)
  have cAtom := Lib.hid (fun (W : World) (h : St B d v l sv L nv ns w W) => atom_any B d v l W L sv nv ns h.dk h.att h.nms hL hA h0 hn hnok)
  have cX := Lib.hid (fun (h1 : 1 ≤ n) (W : World) (h : St B d v l sv L nv ns w W) => ih h1 W h.dk h.att h.nms)
  obtain ⟨b0, hb0⟩ : ∃ b, w.heap.size = b := ⟨_, rfl⟩
  have hbd : b0 ≠ d := by omega
  have hbd1 : b0 + 1 ≠ d := by omega
  have hdb : d < b0 := by omega
  rw [hb0] at O0 X0
  have hb0' := Lib.hid hb0
  obtain ⟨pn, cn, hnv, _, _⟩ := hN
  obtain ⟨ps, cs, hsv, _, _⟩ := hS
  clear hb0 hD ih hA hnok al al2 hdl hL h0 hn
  generalize ns.length = nn at *
  generalize L.length = ml at *
  subst hnv
  subst hsv
  obtain ⟨dp, hdp⟩ : ∃ x : Int, ((n + 1 : Nat) : Int) = x := ⟨_, rfl⟩
  have hdp' := Lib.hid hdp
  have hdp1 : 1 ≤ dp := by omega
  have hdp5 : dp ≤ 5 := by omega
  rw [hdp]
  clear hdp
  go_enter Tryz.func34, Tryz.ntmps34
  go_upto_region 1 with fail
  rw [hb0'.out]
  have hzx : (Obj.cells #[.int .i64 0, .string { data := #[] }, .slice none 0 0, .int .i64 0, .int .i64 0, .slice none 0 0] 25) = zx := rfl
  rw [hzx]
  generalize (w.alloc (.cells #[.slice ps ml cs] 57)).alloc zx = W0 at *
  clear hzx
  have c8 := Lib.hid (Dk.next_any B d v l W0 8 (by omega) (by omega) S0.out.dk)
  go_wp2_with fail
  refine c8.out.mono ?_; rintro e w1 ⟨op, hop, rfl, hD, hK⟩
  have S1 := Lib.hid (S0.out.kept hD hK)
  have O1 := Lib.hid (oat_kept O0.out hK hbd)
  have X1 := Lib.hid (X0.out.kept hK hbd1)
  clear hD hK S0 O0 X0 c8
  by_cases hd2 : dp < 2
  · have t1 : decide (dp < 2) = true := decide_eq_true hd2
    have c12 := Lib.hid (Dk.next_any B d v l w1 12 (by omega) (by omega) S1.out.dk)
    go_wp2_with fail
    refine c12.out.mono ?_; rintro e w2 ⟨y, hy, rfl, hD, hK⟩
    have S2 := Lib.hid (S1.out.kept hD hK)
    have O2 := Lib.hid (oat_kept O1.out hK hbd)
    have X2 := Lib.hid (X1.out.kept hK hbd1)
    clear hD hK S1 O1 X1 c12
    by_cases hy10 : y = 10
    · subst hy10
      have hf := Lib.hid (hfin.out w2 (b0 + 1) ⟨⟨1, [], [], 0, 0⟩, .nil⟩ none none 0 0 0 0 (made_tf 1 (.inl rfl) (n + 1) (by omega)) (by rw [hb0'.out]; omega) (by omega) S2.out.dk S2.out.kp (ex_leaf _ _ _ rfl))
      have hset := Lib.hid (X2.out.set ⟨1, [], [], 0, 0⟩ (.slice none 0 0) (.slice none 0 0))
      obtain ⟨⟨z0, y0, y1, y2, y3, y4, y5⟩, f0, f1, f2, f3, f4, f5⟩ := X2.out
      clear hfin cAtom S2 O2 X2
      go_wp2_with fail
      refine (show bodyPost _ _ _ _ _ (setEx w2 (b0 + 1) ⟨1, [], [], 0, 0⟩ (.slice none 0 0) (.slice none 0 0)) from ?_)
      clear y0 y1 y2 y3 y4 y5 f0 f1 f2 f3 f4 f5
      generalize setEx w2 (b0 + 1) ⟨1, [], [], 0, 0⟩ (.slice none 0 0) (.slice none 0 0) = W9 at *
      obtain ⟨_, q0, q1, q2, q3, q4, q5⟩ := hset.out
      exact bodyPost_ret (v := exV ⟨1, [], [], 0, 0⟩ (.slice none 0 0) (.slice none 0 0)) (by simp [results, Tryz.results34, go_sem, q0, q1, q2, q3, q4, q5, exV]) rfl hf.out
    · by_cases hy11 : y = 11
      · subst hy11
        have hf := Lib.hid (hfin.out w2 (b0 + 1) ⟨⟨2, [], [], 0, 0⟩, .nil⟩ none none 0 0 0 0 (made_tf 2 (.inr rfl) (n + 1) (by omega)) (by rw [hb0'.out]; omega) (by omega) S2.out.dk S2.out.kp (ex_leaf _ _ _ rfl))
        have hset := Lib.hid (X2.out.set ⟨2, [], [], 0, 0⟩ (.slice none 0 0) (.slice none 0 0))
        obtain ⟨⟨z0, y0, y1, y2, y3, y4, y5⟩, f0, f1, f2, f3, f4, f5⟩ := X2.out
        clear hfin cAtom S2 O2 X2
        go_wp2_with fail
        refine (show bodyPost _ _ _ _ _ (setEx w2 (b0 + 1) ⟨2, [], [], 0, 0⟩ (.slice none 0 0) (.slice none 0 0)) from ?_)
        clear y0 y1 y2 y3 y4 y5 f0 f1 f2 f3 f4 f5
        generalize setEx w2 (b0 + 1) ⟨2, [], [], 0, 0⟩ (.slice none 0 0) (.slice none 0 0) = W9 at *
        obtain ⟨_, q0, q1, q2, q3, q4, q5⟩ := hset.out
        exact bodyPost_ret (v := exV ⟨2, [], [], 0, 0⟩ (.slice none 0 0) (.slice none 0 0)) (by simp [results, Tryz.results34, go_sem, q0, q1, q2, q3, q4, q5, exV]) rfl hf.out
      · have ty10 : ((y : Int) == 10) = false := by simp; omega
        have ty11 : ((y : Int) == 11) = false := by simp; omega
        have cA := Lib.hid (cAtom.out w2 S2.out)
        have o2 := O2.out.2
        clear hy10 hy11
        go_wp2_with fail
        refine cA.out.mono ?_; rintro e w3 ⟨x, u, rfl, hA, hU, hD, hK⟩
        have S3 := Lib.hid (S2.out.kept hD hK)
        have X3 := Lib.hid (X2.out.kept hK hbd1)
        have hw2 := S2.out.kp.size
        have hxl : b0 + 1 < w2.heap.size := X2.out.at_.1
        obtain ⟨pu, cu, rfl, hu1, hu2⟩ := id hU
        have hf := Lib.hid (hfin.out w3 (b0 + 1) ⟨x, .nil⟩ pu none x.ws.length cu 0 0 ((atom_made hA).up (by omega)) (by rw [hb0'.out]; omega) (by omega) S3.out.dk S3.out.kp ⟨_, _, rfl, hU.mono fun g hg _ => ⟨by have : w2.heap.size ≤ g := hg; omega, by have : w2.heap.size ≤ g := hg; omega⟩, foS_nil _ _⟩)
        have hset := Lib.hid (X3.out.set x (.slice pu x.ws.length cu) (.slice none 0 0))
        obtain ⟨⟨z0, y0, y1, y2, y3, y4, y5⟩, f0, f1, f2, f3, f4, f5⟩ := X3.out
        clear hfin cAtom S2 O2 X2 S3 X3 hD hK hA hU hu1 hu2 o2 cA
        generalize x.ws.length = nw at *
        unfold exV
        go_wp2_with fail
        refine (show bodyPost _ _ _ _ _ (setEx w3 (b0 + 1) x (.slice pu nw cu) (.slice none 0 0)) from ?_)
        clear y0 y1 y2 y3 y4 y5 f0 f1 f2 f3 f4 f5
        generalize setEx w3 (b0 + 1) x (.slice pu nw cu) (.slice none 0 0) = W9 at *
        obtain ⟨_, q0, q1, q2, q3, q4, q5⟩ := hset.out
        exact bodyPost_ret (v := exV x (.slice pu nw cu) (.slice none 0 0)) (by simp [results, Tryz.results34, go_sem, q0, q1, q2, q3, q4, q5, exV]) rfl hf.out
  · have t1 : decide (dp < 2) = false := decide_eq_false hd2
    by_cases ho4 : op < 4
    · have t2 : decide ((op : Int) < 4) = true := decide_eq_true (by omega)
      have c12 := Lib.hid (Dk.next_any B d v l w1 12 (by omega) (by omega) S1.out.dk)
      go_wp2_with fail
      refine c12.out.mono ?_; rintro e w2 ⟨y, hy, rfl, hD, hK⟩
      have S2 := Lib.hid (S1.out.kept hD hK)
      have O2 := Lib.hid (oat_kept O1.out hK hbd)
      have X2 := Lib.hid (X1.out.kept hK hbd1)
      clear hD hK S1 O1 X1 c12
      by_cases hy10 : y = 10
      · subst hy10
        have hf := Lib.hid (hfin.out w2 (b0 + 1) ⟨⟨1, [], [], 0, 0⟩, .nil⟩ none none 0 0 0 0 (made_tf 1 (.inl rfl) (n + 1) (by omega)) (by rw [hb0'.out]; omega) (by omega) S2.out.dk S2.out.kp (ex_leaf _ _ _ rfl))
        have hset := Lib.hid (X2.out.set ⟨1, [], [], 0, 0⟩ (.slice none 0 0) (.slice none 0 0))
        obtain ⟨⟨z0, y0, y1, y2, y3, y4, y5⟩, f0, f1, f2, f3, f4, f5⟩ := X2.out
        clear hfin cAtom S2 O2 X2
        go_wp2_with fail
        refine (show bodyPost _ _ _ _ _ (setEx w2 (b0 + 1) ⟨1, [], [], 0, 0⟩ (.slice none 0 0) (.slice none 0 0)) from ?_)
        clear y0 y1 y2 y3 y4 y5 f0 f1 f2 f3 f4 f5
        generalize setEx w2 (b0 + 1) ⟨1, [], [], 0, 0⟩ (.slice none 0 0) (.slice none 0 0) = W9 at *
        obtain ⟨_, q0, q1, q2, q3, q4, q5⟩ := hset.out
        exact bodyPost_ret (v := exV ⟨1, [], [], 0, 0⟩ (.slice none 0 0) (.slice none 0 0)) (by simp [results, Tryz.results34, go_sem, q0, q1, q2, q3, q4, q5, exV]) rfl hf.out
      · by_cases hy11 : y = 11
        · subst hy11
          have hf := Lib.hid (hfin.out w2 (b0 + 1) ⟨⟨2, [], [], 0, 0⟩, .nil⟩ none none 0 0 0 0 (made_tf 2 (.inr rfl) (n + 1) (by omega)) (by rw [hb0'.out]; omega) (by omega) S2.out.dk S2.out.kp (ex_leaf _ _ _ rfl))
          have hset := Lib.hid (X2.out.set ⟨2, [], [], 0, 0⟩ (.slice none 0 0) (.slice none 0 0))
          obtain ⟨⟨z0, y0, y1, y2, y3, y4, y5⟩, f0, f1, f2, f3, f4, f5⟩ := X2.out
          clear hfin cAtom S2 O2 X2
          go_wp2_with fail
          refine (show bodyPost _ _ _ _ _ (setEx w2 (b0 + 1) ⟨2, [], [], 0, 0⟩ (.slice none 0 0) (.slice none 0 0)) from ?_)
          clear y0 y1 y2 y3 y4 y5 f0 f1 f2 f3 f4 f5
          generalize setEx w2 (b0 + 1) ⟨2, [], [], 0, 0⟩ (.slice none 0 0) (.slice none 0 0) = W9 at *
          obtain ⟨_, q0, q1, q2, q3, q4, q5⟩ := hset.out
          exact bodyPost_ret (v := exV ⟨2, [], [], 0, 0⟩ (.slice none 0 0) (.slice none 0 0)) (by simp [results, Tryz.results34, go_sem, q0, q1, q2, q3, q4, q5, exV]) rfl hf.out
        · have ty10 : ((y : Int) == 10) = false := by simp; omega
          have ty11 : ((y : Int) == 11) = false := by simp; omega
          have cA := Lib.hid (cAtom.out w2 S2.out)
          have o2 := O2.out.2
          clear hy10 hy11
          go_wp2_with fail
          refine cA.out.mono ?_; rintro e w3 ⟨x, u, rfl, hA, hU, hD, hK⟩
          have S3 := Lib.hid (S2.out.kept hD hK)
          have X3 := Lib.hid (X2.out.kept hK hbd1)
          have hw2 := S2.out.kp.size
          have hxl : b0 + 1 < w2.heap.size := X2.out.at_.1
          obtain ⟨pu, cu, rfl, hu1, hu2⟩ := id hU
          have hf := Lib.hid (hfin.out w3 (b0 + 1) ⟨x, .nil⟩ pu none x.ws.length cu 0 0 ((atom_made hA).up (by omega)) (by rw [hb0'.out]; omega) (by omega) S3.out.dk S3.out.kp ⟨_, _, rfl, hU.mono fun g hg _ => ⟨by have : w2.heap.size ≤ g := hg; omega, by have : w2.heap.size ≤ g := hg; omega⟩, foS_nil _ _⟩)
          have hset := Lib.hid (X3.out.set x (.slice pu x.ws.length cu) (.slice none 0 0))
          obtain ⟨⟨z0, y0, y1, y2, y3, y4, y5⟩, f0, f1, f2, f3, f4, f5⟩ := X3.out
          clear hfin cAtom S2 O2 X2 S3 X3 hD hK hA hU hu1 hu2 o2 cA
          generalize x.ws.length = nw at *
          unfold exV
          go_wp2_with fail
          refine (show bodyPost _ _ _ _ _ (setEx w3 (b0 + 1) x (.slice pu nw cu) (.slice none 0 0)) from ?_)
          clear y0 y1 y2 y3 y4 y5 f0 f1 f2 f3 f4 f5
          generalize setEx w3 (b0 + 1) x (.slice pu nw cu) (.slice none 0 0) = W9 at *
          obtain ⟨_, q0, q1, q2, q3, q4, q5⟩ := hset.out
          exact bodyPost_ret (v := exV x (.slice pu nw cu) (.slice none 0 0)) (by simp [results, Tryz.results34, go_sem, q0, q1, q2, q3, q4, q5, exV]) rfl hf.out
    · have t2 : decide ((op : Int) < 4) = false := decide_eq_false (by omega)
      have hn1 : 1 ≤ n := by have := hdp'.out; omega
      have e1 : IntKind.i64.wrap (dp - 1) = (n : Int) := by rw [IntWalk.i64_in _ (by omega)]; have := hdp'.out; omega
      have hbl : b0 + 1 < w1.heap.size := X1.out.at_.1
      by_cases ho6 : op < 6
      · have t3 : decide ((op : Int) < 6) = true := decide_eq_true (by omega)
        have cE := Lib.hid (cX.out hn1 w1 S1.out)
        have o1 := O1.out.2
        clear cX cAtom hfin
        go_wp2_with fail
        refine cE.out.mono ?_; rintro e w2 ⟨x, q1, q2, n1, c1, n2, c2, rfl, hM, hE, hD, hK⟩
        have X2 := X1.out.kept hK hbd1
        have hw1 := S1.out.kp.size
        have hm := Lib.hid (mk_not hM (show w.heap.size ≤ b0 + 1 from by rw [hb0'.out]; omega) (by omega) hD (S1.out.kp.trans hK) (hE.mono fun g hg _ => ⟨by have : w1.heap.size ≤ g := hg; omega, by have : w1.heap.size ≤ g := hg; omega⟩) X2)
        obtain ⟨⟨z0, y0, y1, y2, y3, y4, y5⟩, f0, f1, f2, f3, f4, f5⟩ := X2
        clear hM hE hD hK X1 S1 O1 o1 cE
        unfold exV
        generalize x.d = dx at *
        go_wp2_with fail
        refine (show bodyPost _ _ _ _ _ ((setEx w2 (b0 + 1) ⟨6, [], [], 0, 0⟩ (.slice none 0 0) (.slice (some ⟨w2.heap.size, 0, none⟩) 1 1)).alloc (xo dx (.slice q1 n1 c1) (.slice q2 n2 c2))) from ?_)
        clear y0 y1 y2 y3 y4 y5 f0 f1 f2 f3 f4 f5 z0
        obtain ⟨_, q0, q1', q2', q3, q4, q5⟩ := hm.out.2
        generalize (setEx w2 (b0 + 1) ⟨6, [], [], 0, 0⟩ (.slice none 0 0) (.slice (some ⟨w2.heap.size, 0, none⟩) 1 1)).alloc (xo dx (.slice q1 n1 c1) (.slice q2 n2 c2)) = W9 at *
        exact bodyPost_ret (v := exV ⟨6, [], [], 0, 0⟩ (.slice none 0 0) (.slice (some ⟨w2.heap.size, 0, none⟩) 1 1)) (by simp [results, Tryz.results34, go_sem, q0, q1', q2', q3, q4, q5, exV]) rfl hm.out.1
      · have t3 : decide ((op : Int) < 6) = false := decide_eq_false (by omega)
        obtain ⟨oi, hoi⟩ : ∃ z : Int, (op : Int) + 1 = z := ⟨_, rfl⟩
        have ho78 := Lib.hid (show oi = 7 ∨ oi = 8 from by omega)
        have e0 : IntKind.i64.wrap ((op : Int) + 1) = oi := by rw [← hoi]; exact IntWalk.i64_in _ (by omega)
        clear hoi cAtom
        have B4 := alloc_at w1 (xo ⟨oi, [], [], 0, 0⟩ (.slice none 0 0) (.slice none 0 0))
        have S4 := Lib.hid (S1.out.below B4)
        have X4 := Lib.hid (X1.out.keep B4)
        have O4 := Lib.hid (O1.out.keep B4)
        have E4 := Lib.hid (XF.new w1 ⟨oi, [], [], 0, 0⟩ (.slice none 0 0) (.slice none 0 0))
        have hw1 := S1.out.kp.size
        go_upto_region 12 with fail
        obtain ⟨be, hbe⟩ : ∃ b, w1.heap.size = b := ⟨_, rfl⟩
        rw [hbe] at E4 hbl hw1 ⊢
        clear hbe B4 S1 X1 O1
        have hze : (Obj.cells #[.int .i64 oi, .string { data := #[] }, .slice none 0 0, .int .i64 0, .int .i64 0, .slice none 0 0] 25) = xo ⟨oi, [], [], 0, 0⟩ (.slice none 0 0) (.slice none 0 0) := rfl
        first | rw [hze] | skip
        generalize w1.alloc (xo ⟨oi, [], [], 0, 0⟩ (.slice none 0 0) (.slice none 0 0)) = W4 at *
        clear hze
        have hbed : be ≠ d := by omega
        have cR := Lib.hid (range_any B d v l W4 2 3 2 (by omega) (by omega) (by omega) (by omega) S4.out.dk)
        go_wp2_with fail
        refine cR.out.mono ?_; rintro e w5 ⟨x2, hx2, rfl, hD, hK⟩
        have S5 := Lib.hid (S4.out.kept hD hK)
        have X5 := Lib.hid (X4.out.kept hK hbd1)
        have O5 := Lib.hid (oat_kept O4.out hK hbd)
        have E5 := Lib.hid (E4.out.kept hK hbed)
        clear hD hK S4 X4 O4 E4 cR
        go_wp2_with fail
        go_loopw [11] (fun x11 wr => ∃ (j : Nat) (xk : Int), x11 = .int .i64 xk ∧ 0 ≤ xk ∧ xk ≤ 3 ∧ j ≤ 3 ∧ Hid (xk = 2 + (x2 : Int) - j) ∧ Hid (Args n B d v l (.slice ps ml cs) L (.slice pn nn cn) ns w b0 be oi j wr)) (fun x11 _ => (RowKit.intOf x11).toNat)
        case atStart => exact ⟨0, 2 + x2, rfl, by omega, by omega, by omega, Lib.hid (by omega), Lib.hid ⟨none, 0, [], rfl, E5.out, erow_nil _ _, (fun q hq => by cases hq), (fun q hq => by cases hq), S5.out, X5.out, O5.out⟩⟩
        case round =>
          obtain ⟨j, xk, rfl, hk0, hk3, hj3, hjj, hArg⟩ := hrel
          obtain ⟨p, c, P, hPl, hXe, hRow, hPart, hMade, hSt, hX1, hO1⟩ := hArg.out
          by_cases hlt : 0 < xk
          · have hXe' := Lib.hid hXe
            have hRow' := Lib.hid hRow
            have hblk := Lib.hid hRow.block
            have hSt' := Lib.hid hSt
            have hStd := Lib.hid (show St B d v l (.slice ps ml cs) L (.slice pn nn cn) ns w wr.drew from hSt.drewN 1)
            have e3 : IntKind.i64.wrap (xk - 1) = xk - 1 := IntWalk.i64_in _ (by omega)
            have hstep := Lib.hid (fun (w1 W1 wA : World) (x : Ex) (q1 q2 : Option Addr) (n1 c1 n2 c2 : Nat) (p6 : Option Addr) (c6 : Nat) hD hK hM hE hal hg hR2 hnew => args_step (n := n) (b0 := b0) (op := oi) (w1 := w1) (W1 := W1) (wA := wA) (x := x) (q1 := q1) (q2 := q2) (n1 := n1) (c1 := c1) (n2 := n2) (c2 := c2) (p6 := p6) (c6 := c6) hPl hXe hRow hPart hMade hSt hX1 hO1 hD hK hM hE hal hg hR2 hnew hw1 (by omega) hbl hbd hbd1)
            have o1 := hO1.2
            have hbel : be < wr.heap.size := hXe.at_.1
            have hO1' := Lib.hid hO1
            obtain ⟨⟨_, r0, r1, r2, r3, r4, r5⟩, m0, m1, m2, m3, m4, m5⟩ := hXe
            have hjj' := Lib.hid (show xk - 1 = 2 + (x2 : Int) - ((j + 1 : Nat) : Int) from by have := hjj.out; omega)
            have hj4 : j + 1 ≤ 3 := by have := hjj.out; omega
            have hPl' := Lib.hid hPl
            clear hRow hPart hMade hSt hX1 hO1 hArg hjj hPl hfin S5 X5 O5 E5
            go_wp2_with fail
            go_region_law
              (first
                | (go_simp; (with_reducible refine (cX.out hn1 _ hStd.out).mono ?_); rintro e w2 ⟨x, q1, q2, n1, c1, n2, c2, rfl, hM, hE, hD, hK⟩; have hK0 := Lib.hid (kept_drew hK); have hbs : wr.heap.size ≤ w2.heap.size := hK.size; have r5a := (hXe'.out.kept hK0.out hbed).at_.2.2.2.2.2.2; have r5f := (hXe'.out.kept hK0.out hbed).f5; have r5b := cell_same r5a ((alloc_at w2 (xo x.d (.slice q1 n1 c1) (.slice q2 n2 c2))).block be); unfold exV)
                | ((with_reducible refine step_append_ex (o := ⟨some 62, _, _, _, _, _⟩) ?_ ?_ ?_ ?_ (be + 1) (.slice p j c) P ?_ ?_ w2.heap.size 0 1 1 [(x, .slice q1 n1 c1, .slice q2 n2 c2)] ?_ ?_ ?_ (six_one1 x.d x.kids q1 q2 n1 c1 n2 c2) ?_ (j + 1) ?_ ?_ ?_ ?_); (rfl); (rotate_left 2); (rfl); (rfl); (exact erow_al (own_block hRow'.out (fun g hg => hK0.out.block g (hblk.out g hg).2 (by have := (hblk.out g hg).1; omega)))); (rfl); (rfl); (with_reducible exact listAt_newg w2 (x, .slice q1 n1 c1, .slice q2 n2 c2) _ _ rfl); (decide); (rw [hPl'.out]); (omega); (simp; omega); intro g6 c6 wA hownA hgrowA hatA hgeA; (have hx5 := hgrowA.block be (by simp; omega) (fun e => by have := (hblk.out be e.symm).1; omega)); (have s1 := cell_same r5b (fun _ => hx5)); (have s2 : wA.frozen? ⟨be, 5, none⟩ = false := by rw [World.frozen?_of_block (a := ⟨be, 5, none⟩) hx5, (alloc_at w2 _).frozen (p := ⟨be, 5, none⟩) (by show be < w2.heap.size; omega)]; exact r5f)))
            all_goals
              have hfin2 := Lib.hid (hstep.out w2 _ wA x q1 q2 n1 c1 n2 c2 _ c6 hD hK0.out hM (hE.mono fun g hg _ => hg) (alloc_at w2 _) hgrowA hownA (by
                rcases hatA with h | h
                · exact .inl h.symm
                · exact .inr fun g hg => by have h2 : g6 = g := Option.some.inj hg; have h3 := sz_al1 w2 (xo x.d (.slice q1 n1 c1) (.slice q2 n2 c2)); omega))
              clear hownA hgrowA hatA hgeA hx5 s1 s2 hD hK hM hE
              go_wp2_with fail
              go_roundw
              case rel => exact ⟨j + 1, xk - 1, rfl, by omega, by omega, hj4, hjj', hfin2⟩
              case measure => simp [RowKit.intOf]; omega
          · have hj := hjj.out
            have hjn : j = 2 ∨ j = 3 := by omega
            have hlen : (P.map (·.1)).length = j := by simp [hPl]
            have hM := made_op oi n (P.map (·.1)) (fun e he => by obtain ⟨q, hq, rfl⟩ := List.mem_map.1 he; exact hMade q hq) (.inr ⟨ho78.out, by omega⟩)
            have hF := hRow.fo (S := fun g => be < g) (hPart.mono fun g hg _ => hg.1) (fun g hg => by have := (hRow.block g hg).1; omega)
            have hf := Lib.hid (hfin.out wr (b0 + 1) ⟨⟨oi, [], [], 0, 0⟩, Fo.ofL (P.map (·.1))⟩ none p 0 0 j c hM (by rw [hb0'.out]; omega) (by omega) hSt.dk hSt.kp ⟨_, _, rfl, strsS_nil _ _, hF.mono fun g hg _ => ⟨by omega, by omega⟩⟩)
            have hset := Lib.hid (hX1.set ⟨oi, [], [], 0, 0⟩ (.slice none 0 0) (.slice p j c))
            obtain ⟨⟨_, r0, r1, r2, r3, r4, r5⟩, _, _, _, _, _, _⟩ := hXe
            obtain ⟨⟨_, p0, p1, p2, p3, p4, p5⟩, m0, m1, m2, m3, m4, m5⟩ := hX1
            clear hF hM hRow hPart hMade hSt hO1 hArg hjj hlen hj hjn hPl cX hfin S5 X5 O5 E5
            have hlt' : xk = 0 := by omega
            clear hlt
            subst hlt'
            go_wp2_with fail
            refine (show bodyPost _ _ _ _ _ (setEx wr (b0 + 1) ⟨oi, [], [], 0, 0⟩ (.slice none 0 0) (.slice p j c)) from ?_)
            clear r0 r1 r2 r3 r4 r5 p0 p1 p2 p3 p4 p5 m0 m1 m2 m3 m4 m5
            generalize setEx wr (b0 + 1) ⟨oi, [], [], 0, 0⟩ (.slice none 0 0) (.slice p j c) = W9 at *
            obtain ⟨_, q0, q1, q2, q3, q4, q5⟩ := hset.out
            exact bodyPost_ret (v := exV ⟨oi, [], [], 0, 0⟩ (.slice none 0 0) (.slice p j c)) (by simp [results, Tryz.results34, go_sem, q0, q1, q2, q3, q4, q5, exV]) rfl hf.out
end Go.Proofs.YtjmipikahaoblaaGreatDoor.Syn
