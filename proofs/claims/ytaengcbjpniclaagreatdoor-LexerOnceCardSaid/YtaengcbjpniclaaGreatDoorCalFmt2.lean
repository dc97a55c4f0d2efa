/- Format of package calendar. -/
import Derived.Test.YtaengcbjpniclaaGreatDoorCalFmt
import Derived.Test.YtaengcbjpniclaaGreatDoorCalLaw0
namespace Go.Proofs.YtaengcbjpniclaaGreatDoor.Cal
open Go.RowKit Go.Lib Go.Proofs.YtaengcbjpniclaaGreatDoor.Bas
set_option linter.unusedVariables false

/-- The text of a day, and of an hour. -/
def dayL (y m d : Int) : List UInt8 := two (y / 100) ++ two (y % 100) ++ [45] ++ two m ++ [45] ++ two d
def fmtL (y m d h : Int) : List UInt8 := if h = 0 then dayL y m d else dayL y m d ++ ([84] ++ two h)
/-- A text and an error. -/
def StrOut (s : ByteArray) (r : Int) (w : World) (e : Ending) (w' : World) : Prop := e = .returned (.tuple #[.string s, .int .i64 r]) ∧ Below w.heap.size w w'
theorem heldK3 {W0 wk w' : World} {p : Nat} {y m d : Int} (D0 : TriAt W0 p y m d) (h : wk.cell? ⟨p, 0, none⟩ = some (.int .i64 y) ∧ wk.cell? ⟨p, 1, none⟩ = some (.int .i64 m) ∧ wk.cell? ⟨p, 2, none⟩ = some (.int .i64 d) ∧ Below W0.heap.size W0 wk) (hB : Below wk.heap.size wk w') :
    w'.cell? ⟨p, 0, none⟩ = some (.int .i64 y) ∧ w'.cell? ⟨p, 1, none⟩ = some (.int .i64 m) ∧ w'.cell? ⟨p, 2, none⟩ = some (.int .i64 d) ∧ Below W0.heap.size W0 w' := by
  have b := trans_at h.2.2.2 hB
  have D := D0.keep b
  exact ⟨D.2.1, D.2.2.1, D.2.2.2.1, b⟩

theorem format_no (n : Int) (w : World) (h : ¬ (0 ≤ n ∧ n ≤ 876599)) : Calls Tryz.prog 45 #[.int .i64 n] w (StrOut { data := #[] } 1 w) := by
  have c := Lib.hid (civil_no n w h)
  clear h
  go_enter Tryz.func45, Tryz.ntmps45
  go_wp2_with fail
  refine c.out.mono ?_; rintro e W1 ⟨rfl, hB⟩
  have b1 := Lib.hid (trans_at hB (alloc1 W1 (.cells #[.int .i64 0, .int .i64 0, .int .i64 0] 70)))
  clear hB
  go_wp2_with fail
  go_ret2
  exact ⟨rfl, b1.out⟩

set_option maxHeartbeats 8000000 in
theorem format_w0 (n y m d h A B : Int) (tA tB tm td th s1 s2 s3 s4 s5 s6 s7 : ByteArray) (w : World) (c : Hid (Calls Tryz.prog 57 #[.int .i64 n] w (CivOut y m d h 0 w)))
    (h0 : (h == 0) = true) (h9 : (h != 0) = false) (y1 : 2000 ≤ y) (y2 : y ≤ 2099) (hA1 : Hid (y.tdiv 100 = A)) (hB1 : Hid (y.tmod 100 = B)) (hAw : Hid (IntKind.i64.wrap A = A)) (hA2 : Hid (y / 100 = A)) (hB2 : Hid (y % 100 = B))
    (cA : Hid (∀ w, Calls Tryz.prog 58 #[.int .i64 A] w (StrBe tA w))) (cB : Hid (∀ w, Calls Tryz.prog 58 #[.int .i64 B] w (StrBe tB w)))
    (cm : Hid (∀ w, Calls Tryz.prog 58 #[.int .i64 m] w (StrBe tm w))) (cd : Hid (∀ w, Calls Tryz.prog 58 #[.int .i64 d] w (StrBe td w)))
    (ch : Hid (∀ w, Calls Tryz.prog 58 #[.int .i64 h] w (StrBe th w)))
    (a1 : Hid (∀ w, (Op.stringOp .add tA tB).run Tryz.prog w = .ok (.string s1) w)) (a2 : Hid (∀ w, (Op.stringOp .add s1 { data := #[45] }).run Tryz.prog w = .ok (.string s2) w))
    (a3 : Hid (∀ w, (Op.stringOp .add s2 tm).run Tryz.prog w = .ok (.string s3) w)) (a4 : Hid (∀ w, (Op.stringOp .add s3 { data := #[45] }).run Tryz.prog w = .ok (.string s4) w))
    (a5 : Hid (∀ w, (Op.stringOp .add s4 td).run Tryz.prog w = .ok (.string s5) w)) (a6 : Hid (∀ w, (Op.stringOp .add { data := #[84] } th).run Tryz.prog w = .ok (.string s6) w)) (a7 : Hid (∀ w, (Op.stringOp .add s5 s6).run Tryz.prog w = .ok (.string s7) w)) :
    Calls Tryz.prog 45 #[.int .i64 n] w (StrOut s5 0 w) := by
  go_enter Tryz.func45, Tryz.ntmps45
  go_wp2_with fail
  refine c.out.mono ?_; rintro e W1 ⟨rfl, hB⟩
  have b1 := Lib.hid hB
  clear hB
  go_upto_region 2 with (fail)
  have b2 := Lib.hid (trans_at b1.out (alloc1 W1 (.cells #[.int .i64 y, .int .i64 m, .int .i64 d] 70)))
  have D2 := Lib.hid (TriAt.new W1 y m d)
  clear b1
  generalize hp : W1.heap.size = p1 at D2 ⊢
  generalize W1.alloc (.cells #[.int .i64 y, .int .i64 m, .int .i64 d] 70) = W2 at b2 D2 ⊢
  clear hp
  go_upto_region 4 with (fail)
  have q1 := hA1.out
  have q2 := hB1.out
  have q5 := hAw.out
  have q3 := hA2.out
  have q4 := hB2.out
  have e1 := a1.out
  have e2 := a2.out
  have e3 := a3.out
  have e4 := a4.out
  have e5 := a5.out
  go_region_held3 (fun w' => w'.cell? ⟨p1, 0, none⟩ = some (.int .i64 y) ∧ w'.cell? ⟨p1, 1, none⟩ = some (.int .i64 m) ∧ w'.cell? ⟨p1, 2, none⟩ = some (.int .i64 d) ∧ Below W2.heap.size W2 w')
    (first | exact ⟨D2.out.2.1, D2.out.2.2.1, D2.out.2.2.2.1, below_drewN (Below.refl _ _) 1⟩ | exact heldK3 D2.out (by assumption) hB)
    ((go_at_call 58; (first | (with_reducible refine (cA.out _).mono ?_) | (with_reducible refine (cB.out _).mono ?_) | (with_reducible refine (cm.out _).mono ?_) | (with_reducible refine (cd.out _).mono ?_)); rintro e w' ⟨rfl, hB⟩))
  rename_i hh
  have b3 := Lib.hid (trans_at b2.out hh.2.2.2)
  clear hh q1 q2 q3 q4 q5 e1 e2 e3 e4 e5 b2 D2
  go_wp2_with fail
  go_ret2
  exact ⟨rfl, b3.out⟩
set_option maxHeartbeats 8000000 in
theorem format_w1 (n y m d h A B : Int) (tA tB tm td th s1 s2 s3 s4 s5 s6 s7 : ByteArray) (w : World) (c : Hid (Calls Tryz.prog 57 #[.int .i64 n] w (CivOut y m d h 0 w)))
    (h0 : (h == 0) = false) (h9 : (h != 0) = true) (y1 : 2000 ≤ y) (y2 : y ≤ 2099) (hA1 : Hid (y.tdiv 100 = A)) (hB1 : Hid (y.tmod 100 = B)) (hAw : Hid (IntKind.i64.wrap A = A)) (hA2 : Hid (y / 100 = A)) (hB2 : Hid (y % 100 = B))
    (cA : Hid (∀ w, Calls Tryz.prog 58 #[.int .i64 A] w (StrBe tA w))) (cB : Hid (∀ w, Calls Tryz.prog 58 #[.int .i64 B] w (StrBe tB w)))
    (cm : Hid (∀ w, Calls Tryz.prog 58 #[.int .i64 m] w (StrBe tm w))) (cd : Hid (∀ w, Calls Tryz.prog 58 #[.int .i64 d] w (StrBe td w)))
    (ch : Hid (∀ w, Calls Tryz.prog 58 #[.int .i64 h] w (StrBe th w)))
    (a1 : Hid (∀ w, (Op.stringOp .add tA tB).run Tryz.prog w = .ok (.string s1) w)) (a2 : Hid (∀ w, (Op.stringOp .add s1 { data := #[45] }).run Tryz.prog w = .ok (.string s2) w))
    (a3 : Hid (∀ w, (Op.stringOp .add s2 tm).run Tryz.prog w = .ok (.string s3) w)) (a4 : Hid (∀ w, (Op.stringOp .add s3 { data := #[45] }).run Tryz.prog w = .ok (.string s4) w))
    (a5 : Hid (∀ w, (Op.stringOp .add s4 td).run Tryz.prog w = .ok (.string s5) w)) (a6 : Hid (∀ w, (Op.stringOp .add { data := #[84] } th).run Tryz.prog w = .ok (.string s6) w)) (a7 : Hid (∀ w, (Op.stringOp .add s5 s6).run Tryz.prog w = .ok (.string s7) w)) :
    Calls Tryz.prog 45 #[.int .i64 n] w (StrOut s7 0 w) := by
  go_enter Tryz.func45, Tryz.ntmps45
  go_wp2_with fail
  refine c.out.mono ?_; rintro e W1 ⟨rfl, hB⟩
  have b1 := Lib.hid hB
  clear hB
  go_upto_region 2 with (fail)
  have b2 := Lib.hid (trans_at b1.out (alloc1 W1 (.cells #[.int .i64 y, .int .i64 m, .int .i64 d] 70)))
  have D2 := Lib.hid (TriAt.new W1 y m d)
  clear b1
  generalize hp : W1.heap.size = p1 at D2 ⊢
  generalize W1.alloc (.cells #[.int .i64 y, .int .i64 m, .int .i64 d] 70) = W2 at b2 D2 ⊢
  clear hp
  go_upto_region 4 with (fail)
  have q1 := hA1.out
  have q2 := hB1.out
  have q5 := hAw.out
  have q3 := hA2.out
  have q4 := hB2.out
  have e1 := a1.out
  have e2 := a2.out
  have e3 := a3.out
  have e4 := a4.out
  have e5 := a5.out
  go_region_held3 (fun w' => w'.cell? ⟨p1, 0, none⟩ = some (.int .i64 y) ∧ w'.cell? ⟨p1, 1, none⟩ = some (.int .i64 m) ∧ w'.cell? ⟨p1, 2, none⟩ = some (.int .i64 d) ∧ Below W2.heap.size W2 w')
    (first | exact ⟨D2.out.2.1, D2.out.2.2.1, D2.out.2.2.2.1, below_drewN (Below.refl _ _) 1⟩ | exact heldK3 D2.out (by assumption) hB)
    ((go_at_call 58; (first | (with_reducible refine (cA.out _).mono ?_) | (with_reducible refine (cB.out _).mono ?_) | (with_reducible refine (cm.out _).mono ?_) | (with_reducible refine (cd.out _).mono ?_)); rintro e w' ⟨rfl, hB⟩))
  rename_i hh
  have b3 := Lib.hid (trans_at b2.out hh.2.2.2)
  clear hh q1 q2 q3 q4 q5 e1 e2 e3 e4 e5 b2 D2
  go_wp2_with fail
  refine (ch.out _).mono ?_; rintro e W4 ⟨rfl, hB⟩
  have b4 := Lib.hid (trans_at b3.out hB)
  clear hB b3
  have e6 := a6.out
  have e7 := a7.out
  go_wp2_with fail
  go_ret2
  exact ⟨rfl, b4.out⟩

end Go.Proofs.YtaengcbjpniclaaGreatDoor.Cal
