/- Normalize of the reference. -/
import Derived.Test.YtcdfedkcefhdiaaExcRow
namespace Go.Proofs.Ytcdfedkcefhdiaa.Exc
open Go.RowKit Go.Lib Go.Proofs.Ytcdfedkcefhdiaa.Bas Go.Proofs.Ytcdfedkcefhdiaa.Spl
set_option linter.unusedVariables false

theorem sumC_bd (l : List Cs) (c : Int) (k : Nat) (h : ∀ i, i < k → okI (cs l i).a) : -((k : Int) * 17592186044416) ≤ sumC l c k ∧ sumC l c k ≤ (k : Int) * 17592186044416 := by
  induction k with
  | zero => simp [sumC]
  | succ k ih =>
    have a := ih fun i hi => h i (by omega)
    have b := h k (by omega)
    unfold okI at b
    have e : sumC l c (k + 1) = sumC l c k + if (cs l k).c = c then (cs l k).a else 0 := rfl
    rw [e]
    push_cast
    split <;> omega
/-- A new row of amounts and an error. -/
def CsOut (L : List Cs) (r : Int) (w : World) (e : Ending) (w' : World) : Prop := ∃ u, e = .returned (.tuple #[u, .int .i64 r]) ∧ CRow w.heap.size w' u L ∧ Below w.heap.size w w'
theorem CsOut.none (r : Int) (w w' : World) (h : Below w.heap.size w w') : CsOut [] r w (.returned (.tuple #[.slice none 0 0, .int .i64 r])) w' := ⟨_, rfl, crow_nil _ _, h⟩
theorem norm_long (v : Value) (l : List Cs) (w : World) (h : CashAt w v l) (hl : 65536 < l.length) (hm : l.length ≤ 9223372036854775807) : Calls Try.prog 20 #[v] w (CsOut [] 4 w) := by
  obtain ⟨p, c, rfl, -, -⟩ := h
  have t1 : decide (65536 < (l.length : Int)) = true := by simp; omega
  have t2 : decide (65536 < l.length) = true := by simp; omega
  have hfin := Lib.hid (CsOut.none 4 w w (Below.refl _ _))
  go_enter Try.func20, Try.ntmps20
  go_wp2_with fail
  go_ret2
  exact hfin.out
set_option maxHeartbeats 16000000 in
theorem norm_short (v : Value) (l : List Cs) (w : World) (h : CashAt w v l) (hl : l.length ≤ 65536) : Calls Try.prog 20 #[v] w (CsOut (normV l).1 (normV l).2 w) := by
  obtain ⟨p, c, rfl, -, hp⟩ := h
  obtain ⟨n, hn⟩ : ∃ n, l.length = n := ⟨_, rfl⟩
  have hbad : ∀ r, fst0 (ce l) n = r → r ≠ 0 → normV l = ([], r) := fun r e g => by
    unfold normV; rw [if_neg (by omega), hn, e, if_pos g]
  have hover : fst0 (ce l) n = 0 → ¬ okK l 16 → normV l = ([], 3) := fun e g => by
    unfold normV; rw [if_neg (by omega), hn, if_neg (by simp [e]), if_neg g]
  have hgood : fst0 (ce l) n = 0 → okK l 16 → normV l = (balK l 16, 0) := fun e g => by
    unfold normV; rw [if_neg (by omega), hn, if_neg (by simp [e]), if_pos g]
  have htot : ∀ c, totC l c = sumC l c n := fun c => by unfold totC; rw [hn]
  rw [hn] at hp hl ⊢
  have hp' := Lib.hid hp
  have hbad' := Lib.hid hbad
  have hover' := Lib.hid hover
  have hgood' := Lib.hid hgood
  have htot' := Lib.hid htot
  have ccu := Lib.hid curOk_any
  have cva := Lib.hid rvalid_any
  have t1 : decide (65536 < (n : Int)) = false := by simp; omega
  have t2 : decide (65536 < n) = false := by simp; omega
  clear hp hn hbad hover hgood htot
  generalize normV l = NV at *
  obtain ⟨NL, NR⟩ := NV
  go_enter Try.func20, Try.ntmps20
  go_wp2_with fail
  go_loop [4] (fun i => ∃ k : Nat, k ≤ n ∧ i = .int .i64 k ∧ Hid (fst0 (ce l) k = 0)) (fun i => n - (intOf i).toNat)
  case atStart => exact ⟨0, Nat.zero_le _, rfl, Lib.hid rfl⟩
  case round =>
    obtain ⟨k, hk, rfl, hz⟩ := hrel
    by_cases hlt : k < n
    · obtain ⟨b, off, rfl, hc⟩ := hp'.out (by omega)
      obtain ⟨y0, y1⟩ := hc k hlt
      have hce : ce l k = if (cs l k).c < 0 ∨ 15 < (cs l k).c then 15 else if ¬ okI (cs l k).a then 1 else 0 := rfl
      have hb : ∀ r, ce l k = r → r ≠ 0 → Hid (([], r) = (NL, NR)) := fun r e g => Lib.hid (hbad'.out r (by rw [fst0_hit (ce l) k n hz.out (by rw [e]; exact g) hlt, e]) g).symm
      have hg : ce l k = 0 → Hid (fst0 (ce l) (k + 1) = 0) := fun e => Lib.hid (by rw [fst0_succ, if_pos hz.out, e])
      clear hc
      generalize (cs l k).c = C at *
      generalize (cs l k).a = A at *
      go_wp2_with fail
      refine (ccu.out C _ _ rfl).mono ?_; rintro e w' ⟨rfl, rfl⟩
      by_cases a1 : C < 0 ∨ 15 < C
      · have hfin := hb 15 (by rw [hce, if_pos a1]) (by omega)
        rw [show cuB C = false from decide_eq_false (by omega)]
        clear hb hg hce a1
        go_wp2_with fail
        go_ret2
        have e1 := (Prod.mk.inj hfin.out).1
        have e2 := (Prod.mk.inj hfin.out).2
        rw [← e1, ← e2]
        exact CsOut.none 15 w w (Below.refl _ _)
      · rw [if_neg a1] at hce
        rw [show cuB C = true from decide_eq_true (by omega)]
        clear a1
        go_wp2_with fail
        refine (cva.out A _ _ rfl).mono ?_; rintro e w' ⟨rfl, rfl⟩
        by_cases a2 : okI A
        · have hgd := hg (by rw [hce, if_neg (by simpa using a2)])
          rw [show okB A = true from decide_eq_true a2]
          clear hb hg hce a2
          go_wp2_with fail
          go_round
          case rel => exact ⟨k + 1, by omega, by go_num, hgd⟩
          case measure => simp [intOf]; omega
        · have hfin := hb 1 (by rw [hce, if_pos a2]) (by omega)
          rw [show okB A = false from decide_eq_false a2]
          clear hb hg hce a2
          go_wp2_with fail
          go_ret2
          have e1 := (Prod.mk.inj hfin.out).1
          have e2 := (Prod.mk.inj hfin.out).2
          rw [← e1, ← e2]
          exact CsOut.none 1 w w (Below.refl _ _)
    · obtain rfl : k = n := by omega
      clear hlt hbad'
      have hok := Lib.hid (fun i (hi : i < k) => by
        have := (fst0_zero (ce l) k).1 hz.out i hi
        unfold ce at this
        split at this
        · cases this
        · split at this
          · cases this
          · rename_i h; exact Classical.not_not.1 h : ∀ i, i < k → okI (cs l i).a)
      go_wp2_with fail
      go_loopw [5, 6] (fun v5 c6 wr => ∃ cu : Nat, cu ≤ 16 ∧ c6 = .int .i64 cu ∧ Hid (okK l cu) ∧ Hid (CRow w.heap.size wr v5 (balK l cu)) ∧ Hid (Below w.heap.size w wr)) (fun _ c _ => 16 - (intOf c).toNat)
      case atStart => exact ⟨0, by omega, rfl, Lib.hid (fun c hc => by omega), Lib.hid (crow_nil _ _), Lib.hid (Below.refl _ _)⟩
      case round =>
        obtain ⟨cu, hcu, rfl, hO, hR, hB⟩ := hrel
        by_cases hc16 : cu < 16
        · have hbal : balK l (cu + 1) = if totC l cu = 0 then balK l cu else balK l cu ++ [⟨(cu : Int), totC l cu⟩] := rfl
          have hbal' := Lib.hid hbal
          clear hbal
          have u1 : decide ((cu : Int) ≤ 15) = true := decide_eq_true (by omega)
          have u2 : decide (cu ≤ 15) = true := decide_eq_true (by omega)
          go_wp2_with fail
          go_loop [7, 8] (fun t i => ∃ j : Nat, j ≤ k ∧ i = .int .i64 j ∧ t = .int .i64 (sumC l cu j)) (fun _ i => k - (intOf i).toNat)
          case atStart => exact ⟨0, Nat.zero_le _, rfl, rfl⟩
          case round =>
            obtain ⟨j, hj, rfl, rfl⟩ := hrel
            have sb := sumC_bd l cu j (fun i hi => hok.out i (by omega))
            have sb1 : -1152921504606846976 ≤ sumC l cu j := by have := sb.1; omega
            have sb2 : sumC l cu j ≤ 1152921504606846976 := by have := sb.2; omega
            clear sb
            by_cases hlt : j < k
            · obtain ⟨b, off, rfl, hc⟩ := hp'.out (by omega)
              have hlb : b < w.heap.size := World.block_lt_of_cell? _ _ (hc 0 (by omega)).1
              have y := hc j hlt
              rw [← hB.out.cell (p := ⟨b, off + j * 2, none⟩) hlb, ← hB.out.cell (p := ⟨b, off + j * 2 + 1, none⟩) hlb] at y
              obtain ⟨y0, y1⟩ := y
              have ha := hok.out j hlt
              unfold okI at ha
              obtain ⟨ha1, ha2⟩ := ha
              have hst : Hid (sumC l cu (j + 1) = sumC l cu j + if (cs l j).c = cu then (cs l j).a else 0) := Lib.hid rfl
              clear hc
              generalize sumC l cu j = x at *
              generalize (cs l j).c = C at *
              generalize (cs l j).a = A at *
              by_cases e1 : C = cu
              · have t3 : (C == (cu : Int)) = true := by simp [e1]
                have hst2 : Hid (sumC l cu (j + 1) = x + A) := Lib.hid (by rw [hst.out, if_pos e1])
                clear e1
                go_wp2_with fail
                go_round
                case rel => exact ⟨j + 1, by omega, by go_num, by rw [hst2.out]⟩
                case measure => simp [intOf]; omega
              · have t3 : (C == (cu : Int)) = false := by simp [e1]
                have hst2 : Hid (sumC l cu (j + 1) = x) := Lib.hid (by rw [hst.out, if_neg e1, Int.add_zero])
                clear e1
                go_wp2_with fail
                go_round
                case rel => exact ⟨j + 1, by omega, by go_num, by rw [hst2.out]⟩
                case measure => simp [intOf]; omega
            · obtain rfl : j = k := by omega
              clear hlt
              have ht := Lib.hid (htot'.out cu)
              rw [ht.out] at hbal'
              go_wp2_with fail
              refine (cva.out _ _ _ rfl).mono ?_; rintro e w' ⟨rfl, rfl⟩
              by_cases hv : okI (sumC l cu j)
              · rw [show okB (sumC l cu j) = true from decide_eq_true hv]
                have hO2 : Hid (okK l (cu + 1)) := Lib.hid (fun c hc => by
                  by_cases e : c < cu
                  · exact hO.out c e
                  · obtain rfl : c = cu := by omega
                    rw [ht.out]; exact hv)
                clear hv
                generalize sumC l cu j = x at *
                by_cases hx0 : x = 0
                · have t3 : (x == 0) = true := by simp [hx0]
                  have t4 : (x != 0) = false := by simp [hx0]
                  have hb2 : Hid (balK l (cu + 1) = balK l cu) := Lib.hid (by rw [hbal'.out, if_pos hx0])
                  clear hx0
                  go_wp2_with fail
                  go_roundw
                  case rel => exact ⟨cu + 1, by omega, by go_num, hO2, Lib.hid (by rw [hb2.out]; exact hR.out), hB⟩
                  case measure => simp [intOf]; omega
                · have t3 : (x == 0) = false := by simp [hx0]
                  have t4 : (x != 0) = true := by simp [hx0]
                  have hb2 : Hid (balK l (cu + 1) = balK l cu ++ [⟨(cu : Int), x⟩]) := Lib.hid (by rw [hbal'.out, if_neg hx0])
                  clear hx0
                  have hlen := balK_length l cu
                  have hsz := hB.out.size
                  have hR1 := hR.out.alloc (.cells #[.int .i64 (cu : Int), .int .i64 x] 40)
                  have hB1 := hB.out.trans ((alloc1 wr (.cells #[.int .i64 (cu : Int), .int .i64 x] 40)).mono hB.out.size)
                  have hone := cash_one wr ⟨(cu : Int), x⟩
                  have hR2 := Lib.hid hR1
                  have hB2 := Lib.hid hB1
                  have ho2 := Lib.hid hone
                  have hs2 := Lib.hid hB1.size
                  have hl2 := Lib.hid hlen
                  clear hR1 hB1 hone hlen hsz
                  go_wp2_with (at_builtin; refine wpList_append_cash rfl (.tmp 61) (.tmp 65) rfl w.heap.size u5 (balK l cu) rfl hR2.out _ [⟨(cu : Int), x⟩] rfl ho2.out (by have := hl2.out; simp; omega) hs2.out ?_; intro v' W3 hown hgrow)
                  rw [← hb2.out] at hown
                  have b3 := Lib.hid (hB2.out.grown hgrow hs2.out (fun g hg => (World.ownsRow.lt hR2.out g hg).1))
                  have R3 := Lib.hid hown
                  clear hown hgrow
                  go_roundw
                  case rel => exact ⟨cu + 1, by omega, by go_num, hO2, R3, b3⟩
                  case measure => simp [intOf]; omega
              · have hfin := Lib.hid (hover'.out hz.out (fun e => hv (by have := e cu hc16; rw [ht.out] at this; exact this)))
                rw [show okB (sumC l cu j) = false from decide_eq_false hv]
                clear hv
                have e1 := Lib.hid (Prod.mk.inj hfin.out).1
                have e2 := Lib.hid (Prod.mk.inj hfin.out).2
                have hend : CsOut NL NR w (.returned (.tuple #[.slice none 0 0, .int .i64 3])) wr := by rw [e1.out, e2.out]; exact CsOut.none 3 w wr hB.out
                have hend' := Lib.hid hend
                clear hend
                go_wp2_with fail
                go_ret2
                exact hend'.out
        · obtain rfl : cu = 16 := by omega
          have hfin := Lib.hid (hgood'.out hz.out hO.out)
          have e1 := Lib.hid (Prod.mk.inj hfin.out).1
          have e2 := Lib.hid (Prod.mk.inj hfin.out).2
          have hend : CsOut NL NR w (.returned (.tuple #[u5, .int .i64 0])) wr := by rw [e1.out, e2.out]; exact ⟨_, rfl, hR.out, hB.out⟩
          have hend' := Lib.hid hend
          clear hend hc16
          go_wp2_with fail
          go_ret2
          exact hend'.out
end Go.Proofs.Ytcdfedkcefhdiaa.Exc
