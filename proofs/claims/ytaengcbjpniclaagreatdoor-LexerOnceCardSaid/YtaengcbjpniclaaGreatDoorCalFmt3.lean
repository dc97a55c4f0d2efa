/- FormatHour of the reference; both together. -/
import Derived.Test.YtaengcbjpniclaaGreatDoorCalFmt2
namespace Go.Proofs.YtaengcbjpniclaaGreatDoor.Cal
open Go.RowKit Go.Lib Go.Proofs.YtaengcbjpniclaaGreatDoor.Bas
set_option linter.unusedVariables false

theorem rformat_no (n : Int) (w : World) (h : ¬ (0 ≤ n ∧ n ≤ 876599)) : Calls Tryz.prog 38 #[.int .i64 n] w (StrOut { data := #[] } 1 w) := by
  have c := Lib.hid (rcivil_no n w h)
  clear h
  go_enter Tryz.func38, Tryz.ntmps38
  go_wp2_with fail
  refine c.out.mono ?_; rintro e W1 ⟨rfl, hB⟩
  have b1 := Lib.hid (trans_at hB (alloc1 W1 (.cells #[.int .i64 0, .int .i64 0, .int .i64 0] 70)))
  clear hB
  go_wp2_with fail
  go_ret2
  exact ⟨rfl, b1.out⟩

set_option maxHeartbeats 8000000 in
theorem rformat_w0 (n y m d h : Int) (ty tm td th s1 s2 s3 s4 s5 s6 : ByteArray) (w : World) (c : Hid (Calls Tryz.prog 53 #[.int .i64 n] w (CivOut y m d h 0 w))) (h9 : decide (0 < h) = false)
    (cy : Hid (∀ w, Calls Tryz.prog 52 #[.int .i64 y, .int .i64 4] w (StrBe ty w)))
    (cm : Hid (∀ w, Calls Tryz.prog 52 #[.int .i64 m, .int .i64 2] w (StrBe tm w))) (cd : Hid (∀ w, Calls Tryz.prog 52 #[.int .i64 d, .int .i64 2] w (StrBe td w)))
    (ch : Hid (∀ w, Calls Tryz.prog 52 #[.int .i64 h, .int .i64 2] w (StrBe th w)))
    (a1 : Hid (∀ w, (Op.stringOp .add ty { data := #[45] }).run Tryz.prog w = .ok (.string s1) w)) (a2 : Hid (∀ w, (Op.stringOp .add s1 tm).run Tryz.prog w = .ok (.string s2) w))
    (a3 : Hid (∀ w, (Op.stringOp .add s2 { data := #[45] }).run Tryz.prog w = .ok (.string s3) w)) (a4 : Hid (∀ w, (Op.stringOp .add s3 td).run Tryz.prog w = .ok (.string s4) w))
    (a5 : Hid (∀ w, (Op.stringOp .add s4 { data := #[84] }).run Tryz.prog w = .ok (.string s5) w)) (a6 : Hid (∀ w, (Op.stringOp .add s5 th).run Tryz.prog w = .ok (.string s6) w)) :
    Calls Tryz.prog 38 #[.int .i64 n] w (StrOut s4 0 w) := by
  go_enter Tryz.func38, Tryz.ntmps38
  go_wp2_with fail
  refine c.out.mono ?_; rintro e W1 ⟨rfl, hB⟩
  have b1 := Lib.hid hB
  clear hB
  go_upto_region 2 with (fail)
  have b2 := Lib.hid (trans_at b1.out (alloc1 W1 (.cells #[.int .i64 y, .int .i64 m, .int .i64 d] 70)))
  have D2 := Lib.hid (TriAt.new W1 y m d)
  clear b1
  generalize hp : W1.heap.size = p1 at D2 ⊢
  generalize W1.alloc (.cells #[.int .i64 y, .int .i64 m, .int .i64 d] 70) = W2 at b2 D2 ⊢
  clear hp
  go_upto_region 4 with (fail)
  have e1 := a1.out
  have e2 := a2.out
  have e3 := a3.out
  have e4 := a4.out
  go_region_held3 (fun w' => w'.cell? ⟨p1, 0, none⟩ = some (.int .i64 y) ∧ w'.cell? ⟨p1, 1, none⟩ = some (.int .i64 m) ∧ w'.cell? ⟨p1, 2, none⟩ = some (.int .i64 d) ∧ Below W2.heap.size W2 w')
    (first | exact ⟨D2.out.2.1, D2.out.2.2.1, D2.out.2.2.2.1, below_drewN (Below.refl _ _) 1⟩ | exact heldK3 D2.out (by assumption) hB)
    ((go_at_call 52; (first | (with_reducible refine (cy.out _).mono ?_) | (with_reducible refine (cm.out _).mono ?_) | (with_reducible refine (cd.out _).mono ?_)); rintro e w' ⟨rfl, hB⟩))
  rename_i hh
  have b3 := Lib.hid (trans_at b2.out hh.2.2.2)
  clear hh e1 e2 e3 e4 b2 D2
  go_wp2_with fail
  go_ret2
  exact ⟨rfl, b3.out⟩

set_option maxHeartbeats 8000000 in
theorem rformat_w1 (n y m d h : Int) (ty tm td th s1 s2 s3 s4 s5 s6 : ByteArray) (w : World) (c : Hid (Calls Tryz.prog 53 #[.int .i64 n] w (CivOut y m d h 0 w))) (h9 : decide (0 < h) = true)
    (cy : Hid (∀ w, Calls Tryz.prog 52 #[.int .i64 y, .int .i64 4] w (StrBe ty w)))
    (cm : Hid (∀ w, Calls Tryz.prog 52 #[.int .i64 m, .int .i64 2] w (StrBe tm w))) (cd : Hid (∀ w, Calls Tryz.prog 52 #[.int .i64 d, .int .i64 2] w (StrBe td w)))
    (ch : Hid (∀ w, Calls Tryz.prog 52 #[.int .i64 h, .int .i64 2] w (StrBe th w)))
    (a1 : Hid (∀ w, (Op.stringOp .add ty { data := #[45] }).run Tryz.prog w = .ok (.string s1) w)) (a2 : Hid (∀ w, (Op.stringOp .add s1 tm).run Tryz.prog w = .ok (.string s2) w))
    (a3 : Hid (∀ w, (Op.stringOp .add s2 { data := #[45] }).run Tryz.prog w = .ok (.string s3) w)) (a4 : Hid (∀ w, (Op.stringOp .add s3 td).run Tryz.prog w = .ok (.string s4) w))
    (a5 : Hid (∀ w, (Op.stringOp .add s4 { data := #[84] }).run Tryz.prog w = .ok (.string s5) w)) (a6 : Hid (∀ w, (Op.stringOp .add s5 th).run Tryz.prog w = .ok (.string s6) w)) :
    Calls Tryz.prog 38 #[.int .i64 n] w (StrOut s6 0 w) := by
  go_enter Tryz.func38, Tryz.ntmps38
  go_wp2_with fail
  refine c.out.mono ?_; rintro e W1 ⟨rfl, hB⟩
  have b1 := Lib.hid hB
  clear hB
  go_upto_region 2 with (fail)
  have b2 := Lib.hid (trans_at b1.out (alloc1 W1 (.cells #[.int .i64 y, .int .i64 m, .int .i64 d] 70)))
  have D2 := Lib.hid (TriAt.new W1 y m d)
  clear b1
  generalize hp : W1.heap.size = p1 at D2 ⊢
  generalize W1.alloc (.cells #[.int .i64 y, .int .i64 m, .int .i64 d] 70) = W2 at b2 D2 ⊢
  clear hp
  go_upto_region 4 with (fail)
  have e1 := a1.out
  have e2 := a2.out
  have e3 := a3.out
  have e4 := a4.out
  go_region_held3 (fun w' => w'.cell? ⟨p1, 0, none⟩ = some (.int .i64 y) ∧ w'.cell? ⟨p1, 1, none⟩ = some (.int .i64 m) ∧ w'.cell? ⟨p1, 2, none⟩ = some (.int .i64 d) ∧ Below W2.heap.size W2 w')
    (first | exact ⟨D2.out.2.1, D2.out.2.2.1, D2.out.2.2.2.1, below_drewN (Below.refl _ _) 1⟩ | exact heldK3 D2.out (by assumption) hB)
    ((go_at_call 52; (first | (with_reducible refine (cy.out _).mono ?_) | (with_reducible refine (cm.out _).mono ?_) | (with_reducible refine (cd.out _).mono ?_)); rintro e w' ⟨rfl, hB⟩))
  rename_i hh
  have b3 := Lib.hid (trans_at b2.out hh.2.2.2)
  clear hh e1 e2 e3 e4 b2 D2
  have e5 := a5.out
  go_wp2_with fail
  refine (ch.out _).mono ?_; rintro e W4 ⟨rfl, hB⟩
  have b4 := Lib.hid (trans_at b3.out hB)
  clear hB b3
  have e6 := a6.out
  go_wp2_with fail
  go_ret2
  exact ⟨rfl, b4.out⟩

theorem dgs_two (n : Nat) (h : n < 100) : dgs n 2 = two n := by
  show [dgc (((n / 10 ^ 1 : Nat) : Int) % 10), dgc (((n / 10 ^ 0 : Nat) : Int) % 10)] = [dgc ((n : Int) / 10), dgc ((n : Int) % 10)]
  rw [show ((n / 10 ^ 1 : Nat) : Int) % 10 = (n : Int) / 10 by rw [show (10 : Nat) ^ 1 = 10 from rfl]; omega, show ((n / 10 ^ 0 : Nat) : Int) % 10 = (n : Int) % 10 by rw [show (10 : Nat) ^ 0 = 1 from rfl]; omega]
theorem dgs_four (n : Nat) (h : n < 10000) : dgs n 4 = two ((n : Int) / 100) ++ two ((n : Int) % 100) := by
  show [dgc (((n / 10 ^ 3 : Nat) : Int) % 10), dgc (((n / 10 ^ 2 : Nat) : Int) % 10), dgc (((n / 10 ^ 1 : Nat) : Int) % 10), dgc (((n / 10 ^ 0 : Nat) : Int) % 10)] = [dgc ((n : Int) / 100 / 10), dgc ((n : Int) / 100 % 10), dgc ((n : Int) % 100 / 10), dgc ((n : Int) % 100 % 10)]
  rw [show ((n / 10 ^ 3 : Nat) : Int) % 10 = (n : Int) / 100 / 10 by rw [show (10 : Nat) ^ 3 = 1000 from rfl]; omega, show ((n / 10 ^ 2 : Nat) : Int) % 10 = (n : Int) / 100 % 10 by rw [show (10 : Nat) ^ 2 = 100 from rfl]; omega,
    show ((n / 10 ^ 1 : Nat) : Int) % 10 = (n : Int) % 100 / 10 by rw [show (10 : Nat) ^ 1 = 10 from rfl]; omega, show ((n / 10 ^ 0 : Nat) : Int) % 10 = (n : Int) % 100 % 10 by rw [show (10 : Nat) ^ 0 = 1 from rfl]; omega]
theorem two_len (n : Int) : (two n).length = 2 := rfl
theorem dig2 (n : Int) (w : World) (h0 : 0 ≤ n) (h1 : n < 100) : Calls Tryz.prog 52 #[.int .i64 n, .int .i64 2] w (StrBe (tx (two n)) w) := by
  have := digits_any n.toNat 2 w (by omega) (by rw [show (10 : Nat) ^ 2 = 100 from rfl]; omega)
  rw [dgs_two n.toNat (by omega), show ((n.toNat : Nat) : Int) = n by omega] at this
  exact this
theorem dig4 (n : Int) (w : World) (h0 : 0 ≤ n) (h1 : n < 10000) : Calls Tryz.prog 52 #[.int .i64 n, .int .i64 4] w (StrBe (tx (two (n / 100) ++ two (n % 100))) w) := by
  have := digits_any n.toNat 4 w (by omega) (by rw [show (10 : Nat) ^ 4 = 10000 from rfl]; omega)
  rw [dgs_four n.toNat (by omega), show ((n.toNat : Nat) : Int) = n by omega] at this
  exact this
/-- The text of an hour; what Format returns. -/
def fmtT (n : Int) : ByteArray := tx (fmtL (yr (n / 24)) (mo (n / 24)) (da (n / 24)) (n % 24))
def fmtV (n : Int) : ByteArray × Int := if 0 ≤ n ∧ n ≤ 876599 then (fmtT n, 0) else ({ data := #[] }, 1)
theorem format_any (n : Int) (w : World) (hT : Tab w) : Calls Tryz.prog 45 #[.int .i64 n] w (StrOut (fmtV n).1 (fmtV n).2 w) := by
  unfold fmtV
  by_cases hr : 0 ≤ n ∧ n ≤ 876599
  · rw [if_pos hr]
    have c := Lib.hid (civil_yes n w hT hr.1 hr.2)
    have o := (day_of n hr.1 hr.2).1
    unfold fmtT
    have h0 : 0 ≤ n % 24 := by omega
    have h1 : n % 24 < 24 := by omega
    generalize yr (n / 24) = y at *
    generalize mo (n / 24) = m at *
    generalize da (n / 24) = d at *
    generalize n % 24 = h at *
    obtain ⟨y1, y2, m1, m2, d1, d2⟩ := o
    have mb := md_bd y m
    have cA := Lib.hid (fun w => two_any (y / 100) w (by omega) (by omega))
    have cB := Lib.hid (fun w => two_any (y % 100) w (by omega) (by omega))
    have cm := Lib.hid (fun w => two_any m w (by omega) (by omega))
    have cd := Lib.hid (fun w => two_any d w (by omega) (by omega))
    have ch := Lib.hid (fun w => two_any h w (by omega) (by omega))
    have a1 := Lib.hid (fun w => tx_add (two (y / 100)) (two (y % 100)) Tryz.prog w (by simp [two]))
    have a2 := Lib.hid (fun w => tx_add (two (y / 100) ++ two (y % 100)) [45] Tryz.prog w (by simp [two]))
    have a3 := Lib.hid (fun w => tx_add (two (y / 100) ++ two (y % 100) ++ [45]) (two m) Tryz.prog w (by simp [two]))
    have a4 := Lib.hid (fun w => tx_add (two (y / 100) ++ two (y % 100) ++ [45] ++ two m) [45] Tryz.prog w (by simp [two]))
    have a5 := Lib.hid (fun w => tx_add (two (y / 100) ++ two (y % 100) ++ [45] ++ two m ++ [45]) (two d) Tryz.prog w (by simp [two]))
    have a6 := Lib.hid (fun w => tx_add [84] (two h) Tryz.prog w (by simp [two]))
    have a7 := Lib.hid (fun w => tx_add (two (y / 100) ++ two (y % 100) ++ [45] ++ two m ++ [45] ++ two d) ([84] ++ two h) Tryz.prog w (by simp [two]))
    have e1 : y.tdiv 100 = y / 100 := Int.tdiv_eq_ediv_of_nonneg (by omega)
    have e2 : y.tmod 100 = y % 100 := Int.tmod_eq_emod_of_nonneg (by omega)
    have e3 : IntKind.i64.wrap (y / 100) = y / 100 := Go.IntWalk.i64_in _ (by omega)
    unfold fmtL
    by_cases hh : h = 0
    · rw [if_pos hh]
      exact format_w0 n y m d h _ _ _ _ _ _ _ _ _ _ _ _ _ _ w c (by simp [hh]) (by simp [hh]) y1 y2 (Lib.hid e1) (Lib.hid e2) (Lib.hid e3) (Lib.hid rfl) (Lib.hid rfl) cA cB cm cd ch a1 a2 a3 a4 a5 a6 a7
    · rw [if_neg hh]
      exact format_w1 n y m d h _ _ _ _ _ _ _ _ _ _ _ _ _ _ w c (by simp [hh]) (by simp [hh]) y1 y2 (Lib.hid e1) (Lib.hid e2) (Lib.hid e3) (Lib.hid rfl) (Lib.hid rfl) cA cB cm cd ch a1 a2 a3 a4 a5 a6 a7
  · rw [if_neg hr]; exact format_no n w hr
theorem rformat_any (n : Int) (w : World) : Calls Tryz.prog 38 #[.int .i64 n] w (StrOut (fmtV n).1 (fmtV n).2 w) := by
  unfold fmtV
  by_cases hr : 0 ≤ n ∧ n ≤ 876599
  · rw [if_pos hr]
    have c := Lib.hid (rcivil_yes n w hr.1 hr.2)
    have o := (day_of n hr.1 hr.2).1
    unfold fmtT
    have h0 : 0 ≤ n % 24 := by omega
    have h1 : n % 24 < 24 := by omega
    generalize yr (n / 24) = y at *
    generalize mo (n / 24) = m at *
    generalize da (n / 24) = d at *
    generalize n % 24 = h at *
    obtain ⟨y1, y2, m1, m2, d1, d2⟩ := o
    have mb := md_bd y m
    have cy := Lib.hid (fun w => dig4 y w (by omega) (by omega))
    have cm := Lib.hid (fun w => dig2 m w (by omega) (by omega))
    have cd := Lib.hid (fun w => dig2 d w (by omega) (by omega))
    have ch := Lib.hid (fun w => dig2 h w (by omega) (by omega))
    have a1 := Lib.hid (fun w => tx_add (two (y / 100) ++ two (y % 100)) [45] Tryz.prog w (by simp [two]))
    have a2 := Lib.hid (fun w => tx_add (two (y / 100) ++ two (y % 100) ++ [45]) (two m) Tryz.prog w (by simp [two]))
    have a3 := Lib.hid (fun w => tx_add (two (y / 100) ++ two (y % 100) ++ [45] ++ two m) [45] Tryz.prog w (by simp [two]))
    have a4 := Lib.hid (fun w => tx_add (two (y / 100) ++ two (y % 100) ++ [45] ++ two m ++ [45]) (two d) Tryz.prog w (by simp [two]))
    have a5 := Lib.hid (fun w => tx_add (two (y / 100) ++ two (y % 100) ++ [45] ++ two m ++ [45] ++ two d) [84] Tryz.prog w (by simp [two]))
    have a6 := Lib.hid (fun w => tx_add (two (y / 100) ++ two (y % 100) ++ [45] ++ two m ++ [45] ++ two d ++ [84]) (two h) Tryz.prog w (by simp [two]))
    unfold fmtL
    by_cases hh : h = 0
    · rw [if_pos hh]
      have hz : decide (0 < h) = false := by simp; omega
      exact rformat_w0 n y m d h _ _ _ _ _ _ _ _ _ _ w c hz cy cm cd ch a1 a2 a3 a4 a5 a6
    · rw [if_neg hh]
      have hz : decide (0 < h) = true := by simp; omega
      unfold dayL
      rw [← List.append_assoc (two (y / 100) ++ two (y % 100) ++ [45] ++ two m ++ [45] ++ two d) [84] (two h)]
      exact rformat_w1 n y m d h _ _ _ _ _ _ _ _ _ _ w c hz cy cm cd ch a1 a2 a3 a4 a5 a6
  · rw [if_neg hr]; exact rformat_no n w hr
end Go.Proofs.YtaengcbjpniclaaGreatDoor.Cal
