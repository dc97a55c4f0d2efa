/- LexerNames' walk. -/
import Derived.Test.YtaengcbjpniclaaDoorLxWd
import Derived.Test.YtaengcbjpniclaaDoorLxRefW
import Derived.Test.YtaengcbjpniclaaDoorLxAwake
import Derived.Test.YtaengcbjpniclaaDoorIntsB
namespace Go.Proofs.YtaengcbjpniclaaDoor.Lx
open Go.RowKit Go.Lib Go.Proofs.YtaengcbjpniclaaDoor.Bas Go.Proofs.YtaengcbjpniclaaDoor.Cal Go.Proofs.YtaengcbjpniclaaDoor.Spl Go.Proofs.YtaengcbjpniclaaDoor.Dk
set_option linter.unusedVariables false

theorem names_skip (s : ByteArray) (v : Value) (b : Int) (w : World) (hE : Env w) (h : 200 < s.size) (hs : s.size ≤ 9223372036854775807) : Calls Tryd.prog 3 #[.string s, v, .int .u8 b] w (BoolBe true w) := by
  have c := Lib.hid (awake_any w hE)
  have t1 : decide ((200 : Int) < (s.size : Int)) = true := by simp; omega
  have t2 : decide (200 < s.size) = true := by simp; omega
  clear hE
  go_enter Tryd.func3, Tryd.ntmps3
  go_wp2_with fail
  try any_goals (exfalso; omega; done)
  refine c.out.mono ?_; rintro e w' ⟨rfl, hB⟩
  have b1 := Lib.hid hB
  clear hB
  go_wp2_with fail
  go_ret
  exact ⟨rfl, b1.out⟩
theorem wordB_le {u : List UInt8} (h : wordB u = true) : 1 ≤ u.length ∧ u.length ≤ 16 := ⟨(of_decide_eq_true h).1, (of_decide_eq_true h).2.1⟩
theorem byte_of (b : Int) (b1 : 0 ≤ b) (b2 : b ≤ 255) : ∃ x : UInt8, b = (x.toNat : Int) := ⟨UInt8.ofNat b.toNat, by
  have : (UInt8.ofNat b.toNat).toNat = b.toNat % 256 := by simp
  omega⟩
/-- One byte as a text. -/
theorem byte_text (w : World) (c : UInt8) : (convert 27 9 (.slice (some ⟨w.heap.size, 0, none⟩) 1 1)).run Tryd.prog (w.alloc (.cells #[.int .u8 (c.toNat : Int)] 5)) = .ok (.string (tx [c])) (w.alloc (.cells #[.int .u8 (c.toNat : Int)] 5)) :=
  run_convert_bytes_back (w.alloc (.cells #[.int .u8 (c.toNat : Int)] 5)) 27 9 5 ⟨w.heap.size, 0, none⟩ 1 [c] Tryd.underlying27 Tryd.underlying5 Tryd.underlying9 (fun j hj => by
    have hj2 : j < 1 := hj
    obtain rfl : j = 0 := by omega
    simp [Addr.add])
set_option maxHeartbeats 4000000 in
theorem namesW (s : ByteArray) (v : Value) (l : List Int) (b : Int) (w : World) (hE : Env w) (h : s.size ≤ 200) (hI : IntsAt w v l) (hl : l.length ≤ 9223372036854775807) (hw : ∀ x ∈ l, -9223372036854775808 ≤ x ∧ x ≤ 9223372036854775807) (b1 : 0 ≤ b) (b2 : b ≤ 255) :
    Calls Tryd.prog 3 #[.string s, v, .int .u8 b] w (BoolBe true w) := by
  have t1 : decide ((200 : Int) < (s.size : Int)) = false := by simp; omega
  have t2 : decide (200 < s.size) = false := by simp; omega
  obtain ⟨c, rfl⟩ := byte_of b b1 b2
  have cN := Lib.hid (new_any v l w hI hl hw)
  have cA := Lib.hid awake_any
  have hE' := Lib.hid hE
  have n1 := Lib.hid (fun w => name_any s w (by omega))
  have n2 := Lib.hid (fun w => rname_any s w (by omega))
  have n3 := Lib.hid (reserved_any s)
  have n4 := Lib.hid (rreserved_any s)
  clear hE hI hl hw b1 b2
  generalize (wordB (bl s) && !resB (bl s)) = x1 at *
  generalize resB (bl s) = x2 at *
  go_enter Tryd.func3, Tryd.ntmps3
  go_wp2_with fail
  try any_goals (exfalso; omega; done)
  refine cN.out.mono ?_; rintro e W1 ⟨d, rfl, hD, hB⟩
  have hdw := hD.ge
  have D1 := Lib.hid hD
  have B1 := Lib.hid hB
  have hsz := hB.size
  clear cN hD hB
  go_wp2_with fail
  refine (wd_any _ d v l _ D1.out).mono ?_; rintro e W2 ⟨u, hu, rfl, hD2, hK2⟩
  have B2 := Lib.hid (B1.out.trans (hK2.below hdw hsz))
  have hul := wordB_le hu
  have m1 := Lib.hid (fun w => name_any (tx u) w (by rw [tx_size]; omega))
  have m2 := Lib.hid (fun w => rname_any (tx u) w (by rw [tx_size]; omega))
  have m3 := Lib.hid (reserved_any (tx u))
  have m4 := Lib.hid (rreserved_any (tx u))
  generalize (wordB (bl (tx u)) && !resB (bl (tx u))) = x3 at *
  generalize resB (bl (tx u)) = x4 at *
  have hcat : ∀ w, (Op.stringOp .add (tx u) (tx [c])).run Tryd.prog w = .ok (.string (tx (u ++ [c]))) w := fun w => tx_add u [c] _ w (by simp; omega)
  have k1 := Lib.hid (fun w => name_any (tx (u ++ [c])) w (by rw [tx_size]; simp; omega))
  have k2 := Lib.hid (fun w => rname_any (tx (u ++ [c])) w (by rw [tx_size]; simp; omega))
  generalize (wordB (bl (tx (u ++ [c]))) && !resB (bl (tx (u ++ [c])))) = x5 at *
  have hbt := byte_text W2 c
  generalize tx [c] = q1 at *
  generalize tx (u ++ [c]) = q2 at *
  generalize tx u = q0 at *
  have B3 := Lib.hid (B2.out.alloc B2.out.size (.cells #[.int .u8 (c.toNat : Int)] 5))
  have hE3 := Lib.hid (hE'.out.keep B3.out)
  clear hD2 hK2 hu hul D1 B1 B2 hE' hsz hdw
  go_wp2_with fail
  refine (n1.out _).mono ?_; rintro e w' ⟨rfl, rfl⟩
  go_wp2_with fail
  refine (n2.out _).mono ?_; rintro e w' ⟨rfl, rfl⟩
  go_wp2_with fail
  refine (n3.out _).mono ?_; rintro e w' ⟨rfl, rfl⟩
  go_wp2_with fail
  refine (n4.out _).mono ?_; rintro e w' ⟨rfl, rfl⟩
  go_wp2_with fail
  refine (m1.out _).mono ?_; rintro e w' ⟨rfl, rfl⟩
  go_wp2_with fail
  refine (m2.out _).mono ?_; rintro e w' ⟨rfl, rfl⟩
  go_wp2_with fail
  refine (m3.out _).mono ?_; rintro e w' ⟨rfl, rfl⟩
  go_wp2_with fail
  refine (m4.out _).mono ?_; rintro e w' ⟨rfl, rfl⟩
  go_wp2_with fail
  refine (k1.out _).mono ?_; rintro e w' ⟨rfl, rfl⟩
  go_wp2_with fail
  refine (k2.out _).mono ?_; rintro e w' ⟨rfl, rfl⟩
  go_wp2_with fail
  refine (cA.out _ hE3.out).mono ?_; rintro e w' ⟨rfl, hB⟩
  have B4 := Lib.hid (B3.out.trans (hB.mono B3.out.size))
  clear hB
  go_wp2_with fail
  go_ret
  exact ⟨rfl, B4.out⟩
theorem names_walk (s : ByteArray) (v : Value) (l : List Int) (b : Int) (w : World) (hE : Env w) (hs : s.size ≤ maxLen) (hI : IntsAt w v l) (hl : l.length ≤ 9223372036854775807) (hw : ∀ x ∈ l, (Lit.int .i64 x).wf = true) (hb : (Lit.int .u8 b).wf = true) :
    Calls Tryd.prog 3 #[.string s, v, .int .u8 b] w (BoolBe true w) := by
  have hs2 : s.size ≤ 9223372036854775807 := by unfold maxLen at hs; omega
  by_cases h : 200 < s.size
  · exact names_skip s v b w hE h hs2
  · exact namesW s v l b w hE (by omega) hI hl (fun x hx => Go.bounds_i64 (hw x hx)) (Go.bounds_u8 hb).1 (Go.bounds_u8 hb).2
end Go.Proofs.YtaengcbjpniclaaDoor.Lx
