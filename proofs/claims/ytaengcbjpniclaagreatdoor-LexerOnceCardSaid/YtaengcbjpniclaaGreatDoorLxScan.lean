/- Package lexer: Scan. -/
import Derived.Test.YtaengcbjpniclaaGreatDoorLxRow
import Derived.WalkMore
namespace Go.Proofs.YtaengcbjpniclaaGreatDoor.Lx
open Go.RowKit Go.Lib Go.Proofs.YtaengcbjpniclaaGreatDoor.Bas Go.Proofs.YtaengcbjpniclaaGreatDoor.Cal
set_option linter.unusedVariables false

/-- Tokens, an offset and an error. -/
def ScanOut (V : List Tk × Int × Int) (w : World) (e : Ending) (w' : World) : Prop := ∃ u, e = .returned (.tuple #[u, .int .i64 V.2.1, .int .i64 V.2.2]) ∧ TRow w.heap.size w' u V.1 ∧ Below w.heap.size w w'
theorem scan_far (s : ByteArray) (w : World) (h : 16384 < s.size) (hs : s.size ≤ 4611686018427387904) : Calls Tryz.prog 10 #[.string s] w (ScanOut (scanV (bl s)) w) := by
  rw [show scanV (bl s) = ([], 0, 4) by unfold scanV; rw [bl_size, if_pos h]]
  have t1 : decide ((16384 : Int) < (s.size : Int)) = true := by simp; omega
  have t2 : decide (16384 < s.size) = true := by simp; omega
  go_enter Tryz.func10, Tryz.ntmps10
  go_wp2_with fail
  go_step3
  go_wp2_with fail
  try any_goals (exfalso; omega; done)
  rw [Exit.noGoto_ret]
  go_ret3
  exact ⟨_, rfl, trow_nil _ _, Below.refl _ _⟩
theorem drop_at (s : ByteArray) (k : Nat) (h : k < s.size) : ((bl s).drop k).getD 0 0 = s[k] ∧ (bl s).drop k ≠ [] := by
  constructor
  · rw [List.getD_eq_getElem?_getD, List.getElem?_drop, Nat.add_zero, ← List.getD_eq_getElem?_getD, bl_get s k h]
  · intro e
    have := congrArg List.length e
    rw [List.length_drop, bl_size] at this
    simp at this; omega
theorem scan_blank (s : ByteArray) (k : Nat) (A : List Tk) (h : k < s.size) (hc : s[k].toNat = 32 ∨ s[k].toNat = 10) : scanL ((bl s).drop k) k A = scanL ((bl s).drop (k + 1)) (k + 1) A := by
  obtain ⟨h1, h2⟩ := drop_at s k h
  rw [scanL_step _ _ _ h2, h1, if_pos hc, List.drop_drop]
theorem scan_rem (s : ByteArray) (k : Nat) (A : List Tk) (h : k < s.size) (hc : s[k].toNat = 35) : scanL ((bl s).drop k) k A = scanL ((bl s).drop (k + spn inC ((bl s).drop k))) (k + spn inC ((bl s).drop k)) A ∧ 1 ≤ spn inC ((bl s).drop k) ∧ k + spn inC ((bl s).drop k) ≤ s.size := by
  obtain ⟨h1, h2⟩ := drop_at s k h
  refine ⟨?_, spnC_pos _ h2 (by rw [h1]; exact hc), ?_⟩
  · rw [scanL_step _ _ _ h2, h1, if_neg (by omega), if_pos hc, List.drop_drop]
  · have := spn_le inC ((bl s).drop k)
    rw [List.length_drop, bl_size] at this
    omega
theorem scan_tok (s : ByteArray) (k : Nat) (A : List Tk) (h : k < s.size) (hc : ¬ (s[k].toNat = 32 ∨ s[k].toNat = 10)) (hc2 : ¬ s[k].toNat = 35) (k1 : Int) (t1 : List UInt8) (n1 p1 : Int) (sz : Nat) (er : Int) (hx : firstV ((bl s).drop k) = (⟨k1, t1, n1, p1⟩, sz, er)) :
    (er ≠ 0 → scanL ((bl s).drop k) k A = ([], (k : Int), er)) ∧ (er = 0 → A.length = 4000 → scanL ((bl s).drop k) k A = ([], (k : Int), 4)) ∧
    (er = 0 → A.length ≠ 4000 → (k1 = 2 ∧ stp ((bl s).drop (k + sz)) = true) → scanL ((bl s).drop k) k A = ([], ((k + sz : Nat) : Int), 5)) ∧
    (er = 0 → A.length ≠ 4000 → ¬ (k1 = 2 ∧ stp ((bl s).drop (k + sz)) = true) → scanL ((bl s).drop k) k A = scanL ((bl s).drop (k + sz)) (k + sz) (A ++ [⟨k1, t1, n1, (k : Int)⟩])) ∧
    (er = 0 → 1 ≤ sz ∧ k + sz ≤ s.size) := by
  obtain ⟨h1, h2⟩ := drop_at s k h
  rw [scanL_step _ _ _ h2, h1, if_neg hc, if_neg hc2, hx, List.drop_drop]
  refine ⟨fun e => by rw [if_pos e], fun e a => by rw [if_neg (by simpa using e), if_pos a], fun e a b => by rw [if_neg (by simpa using e), if_neg a, if_pos b]; simp, fun e a b => by rw [if_neg (by simpa using e), if_neg a, if_neg b], fun e => ?_⟩
  have := first_size _ h2 (by rw [hx]; exact e)
  rw [hx, List.length_drop, bl_size] at this
  exact ⟨this.1, by have : sz ≤ s.size - k := this.2; omega⟩
/-- What stands behind a token. -/
theorem stp_at (s : ByteArray) (k : Nat) : (∀ h : k < s.size, stp ((bl s).drop k) = (ltr s[k] || decide (s[k].toNat = 45))) ∧ (¬ k < s.size → stp ((bl s).drop k) = false) := by
  constructor
  · intro h
    obtain ⟨h1, h2⟩ := drop_at s k h
    unfold stp
    rw [h1, decide_eq_true (by cases hd : (bl s).drop k with | nil => exact absurd hd h2 | cons c r => simp)]
    rfl
  · intro h
    have e : (bl s).drop k = [] := List.drop_of_length_le (by rw [bl_size]; omega)
    rw [e]; rfl

theorem token_two (w : World) (o : Obj) (k1 : Int) (t1 : List UInt8) (n1 p1 : Int) : TksAt ((w.alloc o).alloc (.cells #[.int .i64 k1, .string (tx t1), .int .i64 n1, .int .i64 p1] 25)) (.slice (some ⟨w.heap.size + 1, 0, none⟩) 1 1) [⟨k1, t1, n1, p1⟩] := by
  have := token_one (w.alloc o) ⟨k1, t1, n1, p1⟩
  rw [show (w.alloc o).heap.size = w.heap.size + 1 by simp] at this
  exact this
theorem noStp {k1 : Int} {b : Bool} (h : k1 ≠ 2) : ¬ (k1 = 2 ∧ b = true) := fun e => h e.1
set_option maxRecDepth 8000 in
set_option maxHeartbeats 16000000 in
theorem scan_near (s : ByteArray) (w : World) (hE : Env w) (h : s.size ≤ 16384) : Calls Tryz.prog 10 #[.string s] w (ScanOut (scanV (bl s)) w) := by
  rw [show scanV (bl s) = scanL ((bl s).drop 0) 0 [] by unfold scanV; rw [bl_size, if_neg (by omega), List.drop_zero]]
  obtain ⟨V, hV⟩ : ∃ V, scanL ((bl s).drop 0) 0 [] = V := ⟨_, rfl⟩
  rw [hV]
  have hV' := Lib.hid hV
  have hE' := Lib.hid hE
  have hbs := Lib.hid (bl_size s)
  have cB := Lib.hid (scan_blank s)
  have cR := Lib.hid (scan_rem s)
  have cT := Lib.hid (scan_tok s)
  have cS := Lib.hid (stp_at s)
  have cL := Lib.hid isLetter_any
  have t1 : decide ((16384 : Int) < (s.size : Int)) = false := by simp; omega
  have t2 : decide (16384 < s.size) = false := by simp; omega
  clear hV hE
  go_enter Tryz.func10, Tryz.ntmps10
  go_wp2_with fail
  go_step3
  go_wp2_with fail
  try any_goals (exfalso; omega; done)
  go_step3
  go_wp2_with fail
  go_loopw [5, 6] (fun x5 x6 wr => ∃ (A : List Tk) (k : Nat), x6 = .int .i64 k ∧ k ≤ s.size ∧ A.length ≤ 4000 ∧ Hid (scanL ((bl s).drop k) k A = V) ∧ Hid (TRow w.heap.size wr x5 A) ∧ Hid (Below w.heap.size w wr)) (fun _ i _ => s.size - (RowKit.intOf i).toNat)
  case atStart => exact ⟨[], 0, rfl, Nat.zero_le _, by simp, hV', Lib.hid (trow_nil _ _), Lib.hid (Below.refl _ _)⟩
  case round =>
    obtain ⟨A, k, rfl, hk, hA, hz, hR, hB⟩ := hrel
    by_cases hlt : k < s.size
    · by_cases h32 : s[k].toNat = 32
      · have u1 : ((s[k].toNat : Int) == 32) = true := by simp; omega
        have hz2 := Lib.hid (show scanL ((bl s).drop (k + 1)) (k + 1) A = V by rw [← cB.out k A hlt (.inl h32)]; exact hz.out)
        clear h32 hz
        go_wp2_with fail
        go_roundw
        case rel => exact ⟨A, k + 1, by go_num, by omega, hA, hz2, hR, hB⟩
        case measure => simp [RowKit.intOf]; omega
      · have u0 : ((s[k].toNat : Int) == 32) = false := by simp; omega
        by_cases h10 : s[k].toNat = 10
        · have u1 : ((s[k].toNat : Int) == 10) = true := by simp; omega
          have hz2 := Lib.hid (show scanL ((bl s).drop (k + 1)) (k + 1) A = V by rw [← cB.out k A hlt (.inr h10)]; exact hz.out)
          clear h32 h10 hz
          go_wp2_with fail
          go_roundw
          case rel => exact ⟨A, k + 1, by go_num, by omega, hA, hz2, hR, hB⟩
          case measure => simp [RowKit.intOf]; omega
        · have u1 : ((s[k].toNat : Int) == 10) = false := by simp; omega
          have hlk : (k : Int) ≤ (s.size : Int) := by omega
          have hsx : (s.extract k s.size).size = s.size - k := by rw [ByteArray.size_extract]; omega
          have hsx' := Lib.hid hsx
          clear hsx
          have e1 : ∀ w, (Instr.slice 9 (.string s) (some (.int .i64 (k : Int))) none none).run Tryz.prog w = .ok (.string (s.extract k s.size)) w := fun w => by
            rw [run_slice_string_l w _ s Tryz.underlying9 .i64 (k : Int) (by omega) hlk, Int.toNat_natCast]
          by_cases h35 : s[k].toNat = 35
          · have u2 : ((s[k].toNat : Int) == 35) = true := by simp; omega
            obtain ⟨r1, r2, r3⟩ := cR.out k A hlt h35
            have cP := Lib.hid (fun w => span_inComment (s.extract k s.size) w (by rw [hsx'.out]; omega))
            rw [bl_drop s k] at cP
            generalize spn inC ((bl s).drop k) = m at *
            have hz2 := Lib.hid (show scanL ((bl s).drop (k + m)) (k + m) A = V by rw [← r1]; exact hz.out)
            clear h32 h10 h35 hz r1
            go_wp2_with fail
            refine (cP.out _).mono ?_; rintro e w' ⟨rfl, rfl⟩
            go_wp2_with fail
            go_roundw
            case rel => exact ⟨A, k + m, by rw [show ((k + m : Nat) : Int) = (k : Int) + (m : Int) by omega], by omega, hA, hz2, hR, hB⟩
            case measure => simp [RowKit.intOf]; omega
          · have u2 : ((s[k].toNat : Int) == 35) = false := by simp; omega
            have cF := Lib.hid (fun w hE => first_any (s.extract k s.size) w hE (by rw [hsx'.out]; omega) (by rw [hsx'.out]; omega))
            rw [bl_drop s k] at cF
            have T0 := cT.out k A hlt (by omega) h35
            generalize firstV ((bl s).drop k) = x at *
            obtain ⟨⟨k1, t1, n1, p1⟩, sz, er⟩ := x
            have T1 := Lib.hid (T0 k1 t1 n1 p1 sz er rfl)
            have hEr := Lib.hid (hE'.out.keep hB.out)
            clear h32 h10 h35 T0
            go_wp2_with fail
            refine (cF.out _ hEr.out).mono ?_; rintro e W1 ⟨rfl, hB1⟩
            have R1 := Lib.hid (hR.out.keep hB1)
            have B1 := Lib.hid (hB.out.trans (hB1.mono hB.out.size))
            clear hB1 hR hB
            unfold tkV
            by_cases he : er = 0
            · have v1 : (er == 0) = true := by simp [he]
              have v2 : (er != 0) = false := by simp [he]
              obtain ⟨p0, c0, hv0, hcap, hpp⟩ := R1.out.at
              subst hv0
              clear hpp hcap
              by_cases h4 : A.length = 4000
              · have v3 : ((A.length : Int) == 4000) = true := by simp; omega
                have v3' : (A.length == 4000) = true := by simp; omega
                have hv : V = ([], (k : Int), 4) := by rw [← hz.out]; exact T1.out.2.1 he h4
                have hv' := Lib.hid hv
                clear he hv h4
                go_wp2_with fail
                rw [Exit.noGoto_ret]
                go_ret3
                exact ⟨.slice none 0 0, by rw [hv'.out]; rfl, by rw [hv'.out]; exact trow_nil _ _, B1.out.alloc B1.out.size _⟩
              · have v3 : ((A.length : Int) == 4000) = false := by simp; omega
                have v3' : (A.length == 4000) = false := by simp; omega
                have T2 := Lib.hid (T1.out.2.2.1 he h4)
                have T3 := Lib.hid (T1.out.2.2.2.1 he h4)
                obtain ⟨r2, r3⟩ := T1.out.2.2.2.2 he
                have hA2 : A.length + 1 ≤ 4000 := by omega
                clear he h4 T1
                obtain ⟨m, hm⟩ : ∃ m : Nat, k + sz = m := ⟨_, rfl⟩
                rw [hm] at T2 T3
                have hmi := Lib.hid (show (k : Int) + (sz : Int) = (m : Int) by omega)
                have hkm : k < m := by omega
                have hb9 : (k : Int) + (sz : Int) ≤ 16384 := by omega
                have hms : m ≤ s.size := by omega
                have cSm := Lib.hid (cS.out m)
                clear hm r2 r3 cS cT cR cB cF
                have K1 := (TkAt.new W1 ⟨k1, t1, n1, (k : Int)⟩).keep ((Below.refl (W1.alloc (.cells #[.int .i64 k1, .string (tx t1), .int .i64 n1, .int .i64 (k : Int)] 25)).heap.size _).alloc (Nat.le_refl _) (.cells #[.int .i64 k1, .string (tx t1), .int .i64 n1, .int .i64 (k : Int)] 25))
                have hbl := Lib.hid R1.out.block
                have B2 := Lib.hid ((B1.out.alloc B1.out.size (.cells #[.int .i64 k1, .string (tx t1), .int .i64 n1, .int .i64 (k : Int)] 25)).alloc (by have := B1.out.size; simp; omega) (.cells #[.int .i64 k1, .string (tx t1), .int .i64 n1, .int .i64 (k : Int)] 25))
                have cK := Lib.hid K1.2.1.1
                clear K1
                have hsz1 := B1.out.size
                go_wp2_with (at_builtin; refine wpList_append_tokens rfl (.tmp 53) (.tmp 55) rfl w.heap.size (.slice p0 A.length c0) A rfl ((R1.out.alloc _).alloc _) _ [⟨k1, t1, n1, (k : Int)⟩] rfl (token_two _ _ k1 t1 n1 (k : Int)) (by simp; omega) (by simp; omega) ?_; intro v' W3 hown hgrow; refine Hid.out ?_)
                refine Lib.hid ?_
                have R3 := Lib.hid hown
                have B3 := Lib.hid (B2.out.grown hgrow (by simp; omega) (fun g hg => (hbl.out g hg).1))
                have cK3 := Lib.hid (hgrow.cell cK.out (fun e => Nat.lt_irrefl _ (hbl.out _ e.symm).2))
                clear hown hgrow cK B2 R1 B1
                have hgot := cK3.out
                go_upto_region 20 with (fail)
                rw [hmi.out]
                clear hb9 hmi
                by_cases h2 : k1 = 2
                · have w1 : (k1 == 2) = true := by simp [h2]
                  by_cases hm2 : m < s.size
                  · have hst := cSm.out.1 hm2
                    have cLm := Lib.hid (cL.out s[m])
                    by_cases h45 : s[m].toNat = 45
                    · have w3 : ((s[m].toNat : Int) == 45) = true := by simp; omega
                      rw [decide_eq_true h45, Bool.or_true] at hst
                      have hv := T2.out ⟨h2, hst⟩
                      rw [hz.out] at hv
                      have hv' := Lib.hid hv
                      clear hv hst h45
                      generalize ltr s[m] = bL at *
                      cases bL
                      all_goals
                        go_wp2_with (refine (cLm.out _).mono ?_; rintro e w' ⟨rfl, rfl⟩)
                        rw [Exit.noGoto_ret]
                        go_ret3
                        exact ⟨.slice none 0 0, by rw [hv'.out]; rfl, by rw [hv'.out]; exact trow_nil _ _, B3.out⟩
                    · have w3 : ((s[m].toNat : Int) == 45) = false := by simp; omega
                      rw [decide_eq_false h45, Bool.or_false] at hst
                      cases hL : ltr s[m] with
                      | true =>
                        rw [hL] at cLm hst
                        have hv := T2.out ⟨h2, hst⟩
                        rw [hz.out] at hv
                        have hv' := Lib.hid hv
                        clear hv hst h45 hL
                        go_wp2_with (refine (cLm.out _).mono ?_; rintro e w' ⟨rfl, rfl⟩)
                        rw [Exit.noGoto_ret]
                        go_ret3
                        exact ⟨.slice none 0 0, by rw [hv'.out]; rfl, by rw [hv'.out]; exact trow_nil _ _, B3.out⟩
                      | false =>
                        rw [hL] at cLm hst
                        have hz2 := Lib.hid ((T3.out (fun e => by rw [hst] at e; cases e.2)).symm.trans hz.out)
                        clear hst h45 hL
                        go_wp2_with (refine (cLm.out _).mono ?_; rintro e w' ⟨rfl, rfl⟩)
                        go_roundw
                        case rel => exact ⟨A ++ [⟨k1, t1, n1, (k : Int)⟩], m, rfl, hms, by simp; omega, hz2, R3, B3⟩
                        case measure => simp [RowKit.intOf]; omega
                  · have hz2 := Lib.hid ((T3.out (fun e => by rw [cSm.out.2 hm2] at e; cases e.2)).symm.trans hz.out)
                    go_wp2_with fail
                    go_roundw
                    case rel => exact ⟨A ++ [⟨k1, t1, n1, (k : Int)⟩], m, rfl, hms, by simp; omega, hz2, R3, B3⟩
                    case measure => simp [RowKit.intOf]; omega
                · have w1 : (k1 == 2) = false := by simp [h2]
                  have hz2 := Lib.hid ((T3.out (noStp h2)).symm.trans hz.out)
                  clear h2
                  go_wp2_with fail
                  go_roundw
                  case rel => exact ⟨A ++ [⟨k1, t1, n1, (k : Int)⟩], m, rfl, hms, by simp; omega, hz2, R3, B3⟩
                  case measure => simp [RowKit.intOf]; omega
            · have v1 : (er == 0) = false := by simp [he]
              have v2 : (er != 0) = true := by simp [he]
              have hv : V = ([], (k : Int), er) := by rw [← hz.out]; exact T1.out.1 he
              have hv' := Lib.hid hv
              clear he hv
              go_wp2_with fail
              rw [Exit.noGoto_ret]
              go_ret3
              exact ⟨.slice none 0 0, by rw [hv'.out]; rfl, by rw [hv'.out]; exact trow_nil _ _, B1.out.alloc B1.out.size _⟩
    · obtain rfl : k = s.size := by omega
      have hv : V = (A, 0, 0) := by rw [← hz.out, List.drop_of_length_le (by rw [hbs.out]; omega)]; rfl
      have hv' := Lib.hid hv
      clear hv
      go_wp2_with fail
      rw [Exit.noGoto_ret]
      go_ret3
      exact ⟨u5, by rw [hv'.out]; rfl, by rw [hv'.out]; exact hR.out, hB.out⟩
end Go.Proofs.YtaengcbjpniclaaGreatDoor.Lx
