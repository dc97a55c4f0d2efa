/- The reference's check of a node. (gen_synnode.py) -/
import Derived.Test.YtjmipikahaoblaaGreatDoorZ05
import Derived.Test.YtjmipikahaoblaaGreatDoorZ12
namespace Go.Proofs.YtjmipikahaoblaaGreatDoor.Syn
open Go.RowKit Go.Lib Go.Proofs.YtjmipikahaoblaaGreatDoor.Bas Go.Proofs.YtjmipikahaoblaaGreatDoor.Cal Go.Proofs.YtjmipikahaoblaaGreatDoor.Lx Go.Proofs.YtjmipikahaoblaaGreatDoor.Sc
set_option linter.unusedVariables false

theorem nm_empty (nm : List UInt8) : (tx nm).toList.isEmpty = decide (nm = []) := by
  rw [toList_bl, bl_tx]
  cases nm <;> simp
abbrev NodeR (op : Int) (nm : List UInt8) (u : Value) (lo hi : Int) (a : Value) (w : World) (r : Bool) : Prop := Calls Tryz.prog 59 #[.agg #[.int .i64 op, .string (tx nm), u, .int .i64 lo, .int .i64 hi, a]] w (BB r w)
abbrev xo6 (op : Int) (nm : List UInt8) (u : Value) (lo hi : Int) (a : Value) : Obj := .cells #[.int .i64 op, .string (tx nm), u, .int .i64 lo, .int .i64 hi, a] 25
set_option maxHeartbeats 4000000 in
theorem nd_low (op : Int) (nm : List UInt8) (u : Value) (ws : List (List UInt8)) (lo hi : Int) (p : Option Addr) (c n : Nat) (w : World) (hu : StrsAt w u ws) (hws : WsWf ws) (hn : n ≤ 9223372036854775807) (h : op < 1) : NodeR op nm u lo hi (.slice p n c) w false := by
  have B0 := Lib.hid (alloc_at w (xo6 op nm u lo hi (.slice p n c)))
  have S0 := Lib.hid (hu.below B0.out)
  have hws' := Lib.hid hws
  have hwl := hws.1
  have t3 : (op == 3) = false := by simp; omega
  have t4 : (op == 4) = false := by simp; omega
  have t5 : (op == 5) = false := by simp; omega
  have tl : decide (op < 1) = true := decide_eq_true h
  obtain ⟨pu, cu, rfl, _, _⟩ := hu
  clear hws
  unfold NodeR
  generalize ws.length = nw at *
  (try clear hm)
  (try clear hw)
  (try clear hk)
  go_enter Tryz.func59, Tryz.ntmps59
  go_wp2_with fail
  go_ret
  first | exact ⟨rfl, B0.out⟩ | exact ⟨rfl, below_drewN B0.out _⟩
set_option maxHeartbeats 4000000 in
theorem nd_high (op : Int) (nm : List UInt8) (u : Value) (ws : List (List UInt8)) (lo hi : Int) (p : Option Addr) (c n : Nat) (w : World) (hu : StrsAt w u ws) (hws : WsWf ws) (hn : n ≤ 9223372036854775807) (h : 8 < op) : NodeR op nm u lo hi (.slice p n c) w false := by
  have B0 := Lib.hid (alloc_at w (xo6 op nm u lo hi (.slice p n c)))
  have S0 := Lib.hid (hu.below B0.out)
  have hws' := Lib.hid hws
  have hwl := hws.1
  have t3 : (op == 3) = false := by simp; omega
  have t4 : (op == 4) = false := by simp; omega
  have t5 : (op == 5) = false := by simp; omega
  have tl : decide (op < 1) = false := decide_eq_false (by omega)
  have tg : decide (8 < op) = true := decide_eq_true h
  obtain ⟨pu, cu, rfl, _, _⟩ := hu
  clear hws
  unfold NodeR
  generalize ws.length = nw at *
  (try clear hm)
  (try clear hw)
  (try clear hk)
  go_enter Tryz.func59, Tryz.ntmps59
  go_wp2_with fail
  go_ret
  first | exact ⟨rfl, B0.out⟩ | exact ⟨rfl, below_drewN B0.out _⟩
set_option maxHeartbeats 4000000 in
theorem nd_name (op : Int) (nm : List UInt8) (u : Value) (ws : List (List UInt8)) (lo hi : Int) (p : Option Addr) (c n : Nat) (w : World) (hu : StrsAt w u ws) (hws : WsWf ws) (hn : n ≤ 9223372036854775807) (h : 1 ≤ op ∧ op ≤ 8) (h3 : op ≠ 3) (h4 : op ≠ 4) (h5 : op ≠ 5) (hm : nm ≠ []) : NodeR op nm u lo hi (.slice p n c) w false := by
  have B0 := Lib.hid (alloc_at w (xo6 op nm u lo hi (.slice p n c)))
  have S0 := Lib.hid (hu.below B0.out)
  have hws' := Lib.hid hws
  have hwl := hws.1
  have t3 : (op == 3) = false := by simp; omega
  have t4 : (op == 4) = false := by simp; omega
  have t5 : (op == 5) = false := by simp; omega
  have tl : decide (op < 1) = false := decide_eq_false (by omega)
  have tg : decide (8 < op) = false := decide_eq_false (by omega)
  have he := nm_empty nm
  rw [decide_eq_false hm] at he
  obtain ⟨pu, cu, rfl, _, _⟩ := hu
  clear hws
  unfold NodeR
  generalize ws.length = nw at *
  (try clear hm)
  (try clear hw)
  (try clear hk)
  go_enter Tryz.func59, Tryz.ntmps59
  go_wp2_with fail
  go_ret
  first | exact ⟨rfl, B0.out⟩ | exact ⟨rfl, below_drewN B0.out _⟩
set_option maxHeartbeats 4000000 in
theorem nd_words (op : Int) (nm : List UInt8) (u : Value) (ws : List (List UInt8)) (lo hi : Int) (p : Option Addr) (c n : Nat) (w : World) (hu : StrsAt w u ws) (hws : WsWf ws) (hn : n ≤ 9223372036854775807) (h : 1 ≤ op ∧ op ≤ 8) (h3 : op ≠ 3) (h4 : op ≠ 4) (h5 : op ≠ 5) (hm : nm = []) (hw : 0 < ws.length) : NodeR op nm u lo hi (.slice p n c) w false := by
  have B0 := Lib.hid (alloc_at w (xo6 op nm u lo hi (.slice p n c)))
  have S0 := Lib.hid (hu.below B0.out)
  have hws' := Lib.hid hws
  have hwl := hws.1
  have t3 : (op == 3) = false := by simp; omega
  have t4 : (op == 4) = false := by simp; omega
  have t5 : (op == 5) = false := by simp; omega
  have tl : decide (op < 1) = false := decide_eq_false (by omega)
  have tg : decide (8 < op) = false := decide_eq_false (by omega)
  have he := nm_empty nm
  rw [decide_eq_true hm] at he
  have tn : decide ((0 : Int) < (ws.length : Int)) = true := decide_eq_true (by omega)
  have tn2 : decide (0 < ws.length) = true := decide_eq_true (by omega)
  obtain ⟨pu, cu, rfl, _, _⟩ := hu
  clear hws
  unfold NodeR
  generalize ws.length = nw at *
  (try clear hm)
  (try clear hw)
  (try clear hk)
  go_enter Tryz.func59, Tryz.ntmps59
  go_wp2_with fail
  go_ret
  first | exact ⟨rfl, B0.out⟩ | exact ⟨rfl, below_drewN B0.out _⟩
set_option maxHeartbeats 4000000 in
theorem nd_lo (op : Int) (nm : List UInt8) (u : Value) (ws : List (List UInt8)) (lo hi : Int) (p : Option Addr) (c n : Nat) (w : World) (hu : StrsAt w u ws) (hws : WsWf ws) (hn : n ≤ 9223372036854775807) (h : 1 ≤ op ∧ op ≤ 8) (h3 : op ≠ 3) (h4 : op ≠ 4) (h5 : op ≠ 5) (hm : nm = []) (hw : ws.length = 0) (hl : lo ≠ 0) : NodeR op nm u lo hi (.slice p n c) w false := by
  have B0 := Lib.hid (alloc_at w (xo6 op nm u lo hi (.slice p n c)))
  have S0 := Lib.hid (hu.below B0.out)
  have hws' := Lib.hid hws
  have hwl := hws.1
  have t3 : (op == 3) = false := by simp; omega
  have t4 : (op == 4) = false := by simp; omega
  have t5 : (op == 5) = false := by simp; omega
  have tl : decide (op < 1) = false := decide_eq_false (by omega)
  have tg : decide (8 < op) = false := decide_eq_false (by omega)
  have he := nm_empty nm
  rw [decide_eq_true hm] at he
  have tn : decide ((0 : Int) < (ws.length : Int)) = false := decide_eq_false (by omega)
  have tn2 : decide (0 < ws.length) = false := decide_eq_false (by omega)
  have l1 : (lo == 0) = false := by simpa using hl
  obtain ⟨pu, cu, rfl, _, _⟩ := hu
  clear hws
  unfold NodeR
  generalize ws.length = nw at *
  (try clear hm)
  (try clear hw)
  (try clear hk)
  go_enter Tryz.func59, Tryz.ntmps59
  go_wp2_with fail
  go_ret
  first | exact ⟨rfl, B0.out⟩ | exact ⟨rfl, below_drewN B0.out _⟩
set_option maxHeartbeats 4000000 in
theorem nd_hi (op : Int) (nm : List UInt8) (u : Value) (ws : List (List UInt8)) (hi : Int) (p : Option Addr) (c n : Nat) (w : World) (hu : StrsAt w u ws) (hws : WsWf ws) (hn : n ≤ 9223372036854775807) (h : 1 ≤ op ∧ op ≤ 8) (h3 : op ≠ 3) (h4 : op ≠ 4) (h5 : op ≠ 5) (hm : nm = []) (hw : ws.length = 0) (hl : hi ≠ 0) : NodeR op nm u 0 hi (.slice p n c) w false := by
  have B0 := Lib.hid (alloc_at w (xo6 op nm u 0 hi (.slice p n c)))
  have S0 := Lib.hid (hu.below B0.out)
  have hws' := Lib.hid hws
  have hwl := hws.1
  have t3 : (op == 3) = false := by simp; omega
  have t4 : (op == 4) = false := by simp; omega
  have t5 : (op == 5) = false := by simp; omega
  have tl : decide (op < 1) = false := decide_eq_false (by omega)
  have tg : decide (8 < op) = false := decide_eq_false (by omega)
  have he := nm_empty nm
  rw [decide_eq_true hm] at he
  have tn : decide ((0 : Int) < (ws.length : Int)) = false := decide_eq_false (by omega)
  have tn2 : decide (0 < ws.length) = false := decide_eq_false (by omega)
  have l2 : (hi == 0) = false := by simpa using hl
  obtain ⟨pu, cu, rfl, _, _⟩ := hu
  clear hws
  unfold NodeR
  generalize ws.length = nw at *
  (try clear hm)
  (try clear hw)
  (try clear hk)
  go_enter Tryz.func59, Tryz.ntmps59
  go_wp2_with fail
  go_ret
  first | exact ⟨rfl, B0.out⟩ | exact ⟨rfl, below_drewN B0.out _⟩
set_option maxHeartbeats 4000000 in
theorem nd_op1t (nm : List UInt8) (u : Value) (ws : List (List UInt8)) (zz : Int) (p : Option Addr) (c n : Nat) (w : World) (hu : StrsAt w u ws) (hws : WsWf ws) (hn : n ≤ 9223372036854775807) (hm : nm = []) (hw : ws.length = 0) (hk : n = 0) : NodeR 1 nm u 0 0 (.slice p n c) w true := by
  have B0 := Lib.hid (alloc_at w (xo6 1 nm u 0 0 (.slice p n c)))
  have S0 := Lib.hid (hu.below B0.out)
  have hws' := Lib.hid hws
  have hwl := hws.1
  have he := nm_empty nm
  rw [decide_eq_true hm] at he
  have tn : decide ((0 : Int) < (ws.length : Int)) = false := decide_eq_false (by omega)
  have tn2 : decide (0 < ws.length) = false := decide_eq_false (by omega)
  have tk : ((n : Int) == 0) = true := by simp; omega
  obtain ⟨pu, cu, rfl, _, _⟩ := hu
  clear hws
  unfold NodeR
  generalize ws.length = nw at *
  (try clear hm)
  (try clear hw)
  (try clear hk)
  go_enter Tryz.func59, Tryz.ntmps59
  go_wp2_with fail
  go_ret
  first | exact ⟨rfl, B0.out⟩ | exact ⟨rfl, below_drewN B0.out _⟩
set_option maxHeartbeats 4000000 in
theorem nd_op1f (nm : List UInt8) (u : Value) (ws : List (List UInt8)) (zz : Int) (p : Option Addr) (c n : Nat) (w : World) (hu : StrsAt w u ws) (hws : WsWf ws) (hn : n ≤ 9223372036854775807) (hm : nm = []) (hw : ws.length = 0) (hk : n ≠ 0) : NodeR 1 nm u 0 0 (.slice p n c) w false := by
  have B0 := Lib.hid (alloc_at w (xo6 1 nm u 0 0 (.slice p n c)))
  have S0 := Lib.hid (hu.below B0.out)
  have hws' := Lib.hid hws
  have hwl := hws.1
  have he := nm_empty nm
  rw [decide_eq_true hm] at he
  have tn : decide ((0 : Int) < (ws.length : Int)) = false := decide_eq_false (by omega)
  have tn2 : decide (0 < ws.length) = false := decide_eq_false (by omega)
  have tk : ((n : Int) == 0) = false := by simp; omega
  obtain ⟨pu, cu, rfl, _, _⟩ := hu
  clear hws
  unfold NodeR
  generalize ws.length = nw at *
  (try clear hm)
  (try clear hw)
  (try clear hk)
  go_enter Tryz.func59, Tryz.ntmps59
  go_wp2_with fail
  go_ret
  first | exact ⟨rfl, B0.out⟩ | exact ⟨rfl, below_drewN B0.out _⟩
set_option maxHeartbeats 4000000 in
theorem nd_op2t (nm : List UInt8) (u : Value) (ws : List (List UInt8)) (zz : Int) (p : Option Addr) (c n : Nat) (w : World) (hu : StrsAt w u ws) (hws : WsWf ws) (hn : n ≤ 9223372036854775807) (hm : nm = []) (hw : ws.length = 0) (hk : n = 0) : NodeR 2 nm u 0 0 (.slice p n c) w true := by
  have B0 := Lib.hid (alloc_at w (xo6 2 nm u 0 0 (.slice p n c)))
  have S0 := Lib.hid (hu.below B0.out)
  have hws' := Lib.hid hws
  have hwl := hws.1
  have he := nm_empty nm
  rw [decide_eq_true hm] at he
  have tn : decide ((0 : Int) < (ws.length : Int)) = false := decide_eq_false (by omega)
  have tn2 : decide (0 < ws.length) = false := decide_eq_false (by omega)
  have tk : ((n : Int) == 0) = true := by simp; omega
  obtain ⟨pu, cu, rfl, _, _⟩ := hu
  clear hws
  unfold NodeR
  generalize ws.length = nw at *
  (try clear hm)
  (try clear hw)
  (try clear hk)
  go_enter Tryz.func59, Tryz.ntmps59
  go_wp2_with fail
  go_ret
  first | exact ⟨rfl, B0.out⟩ | exact ⟨rfl, below_drewN B0.out _⟩
set_option maxHeartbeats 4000000 in
theorem nd_op2f (nm : List UInt8) (u : Value) (ws : List (List UInt8)) (zz : Int) (p : Option Addr) (c n : Nat) (w : World) (hu : StrsAt w u ws) (hws : WsWf ws) (hn : n ≤ 9223372036854775807) (hm : nm = []) (hw : ws.length = 0) (hk : n ≠ 0) : NodeR 2 nm u 0 0 (.slice p n c) w false := by
  have B0 := Lib.hid (alloc_at w (xo6 2 nm u 0 0 (.slice p n c)))
  have S0 := Lib.hid (hu.below B0.out)
  have hws' := Lib.hid hws
  have hwl := hws.1
  have he := nm_empty nm
  rw [decide_eq_true hm] at he
  have tn : decide ((0 : Int) < (ws.length : Int)) = false := decide_eq_false (by omega)
  have tn2 : decide (0 < ws.length) = false := decide_eq_false (by omega)
  have tk : ((n : Int) == 0) = false := by simp; omega
  obtain ⟨pu, cu, rfl, _, _⟩ := hu
  clear hws
  unfold NodeR
  generalize ws.length = nw at *
  (try clear hm)
  (try clear hw)
  (try clear hk)
  go_enter Tryz.func59, Tryz.ntmps59
  go_wp2_with fail
  go_ret
  first | exact ⟨rfl, B0.out⟩ | exact ⟨rfl, below_drewN B0.out _⟩
set_option maxHeartbeats 4000000 in
theorem nd_op6t (nm : List UInt8) (u : Value) (ws : List (List UInt8)) (zz : Int) (p : Option Addr) (c n : Nat) (w : World) (hu : StrsAt w u ws) (hws : WsWf ws) (hn : n ≤ 9223372036854775807) (hm : nm = []) (hw : ws.length = 0) (hk : n = 1) : NodeR 6 nm u 0 0 (.slice p n c) w true := by
  have B0 := Lib.hid (alloc_at w (xo6 6 nm u 0 0 (.slice p n c)))
  have S0 := Lib.hid (hu.below B0.out)
  have hws' := Lib.hid hws
  have hwl := hws.1
  have he := nm_empty nm
  rw [decide_eq_true hm] at he
  have tn : decide ((0 : Int) < (ws.length : Int)) = false := decide_eq_false (by omega)
  have tn2 : decide (0 < ws.length) = false := decide_eq_false (by omega)
  have tk : ((n : Int) == 1) = true := by simp; omega
  obtain ⟨pu, cu, rfl, _, _⟩ := hu
  clear hws
  unfold NodeR
  generalize ws.length = nw at *
  (try clear hm)
  (try clear hw)
  (try clear hk)
  go_enter Tryz.func59, Tryz.ntmps59
  go_wp2_with fail
  go_ret
  first | exact ⟨rfl, B0.out⟩ | exact ⟨rfl, below_drewN B0.out _⟩
set_option maxHeartbeats 4000000 in
theorem nd_op6f (nm : List UInt8) (u : Value) (ws : List (List UInt8)) (zz : Int) (p : Option Addr) (c n : Nat) (w : World) (hu : StrsAt w u ws) (hws : WsWf ws) (hn : n ≤ 9223372036854775807) (hm : nm = []) (hw : ws.length = 0) (hk : n ≠ 1) : NodeR 6 nm u 0 0 (.slice p n c) w false := by
  have B0 := Lib.hid (alloc_at w (xo6 6 nm u 0 0 (.slice p n c)))
  have S0 := Lib.hid (hu.below B0.out)
  have hws' := Lib.hid hws
  have hwl := hws.1
  have he := nm_empty nm
  rw [decide_eq_true hm] at he
  have tn : decide ((0 : Int) < (ws.length : Int)) = false := decide_eq_false (by omega)
  have tn2 : decide (0 < ws.length) = false := decide_eq_false (by omega)
  have tk : ((n : Int) == 1) = false := by simp; omega
  obtain ⟨pu, cu, rfl, _, _⟩ := hu
  clear hws
  unfold NodeR
  generalize ws.length = nw at *
  (try clear hm)
  (try clear hw)
  (try clear hk)
  go_enter Tryz.func59, Tryz.ntmps59
  go_wp2_with fail
  go_ret
  first | exact ⟨rfl, B0.out⟩ | exact ⟨rfl, below_drewN B0.out _⟩
set_option maxHeartbeats 4000000 in
theorem nd_op7t (nm : List UInt8) (u : Value) (ws : List (List UInt8)) (zz : Int) (p : Option Addr) (c n : Nat) (w : World) (hu : StrsAt w u ws) (hws : WsWf ws) (hn : n ≤ 9223372036854775807) (hm : nm = []) (hw : ws.length = 0) (hk : 2 ≤ n) : NodeR 7 nm u 0 0 (.slice p n c) w true := by
  have B0 := Lib.hid (alloc_at w (xo6 7 nm u 0 0 (.slice p n c)))
  have S0 := Lib.hid (hu.below B0.out)
  have hws' := Lib.hid hws
  have hwl := hws.1
  have he := nm_empty nm
  rw [decide_eq_true hm] at he
  have tn : decide ((0 : Int) < (ws.length : Int)) = false := decide_eq_false (by omega)
  have tn2 : decide (0 < ws.length) = false := decide_eq_false (by omega)
  have tk : decide ((2 : Int) ≤ (n : Int)) = true := decide_eq_true (by omega)
  obtain ⟨pu, cu, rfl, _, _⟩ := hu
  clear hws
  unfold NodeR
  generalize ws.length = nw at *
  (try clear hm)
  (try clear hw)
  (try clear hk)
  go_enter Tryz.func59, Tryz.ntmps59
  go_wp2_with fail
  go_ret
  first | exact ⟨rfl, B0.out⟩ | exact ⟨rfl, below_drewN B0.out _⟩
set_option maxHeartbeats 4000000 in
theorem nd_op7f (nm : List UInt8) (u : Value) (ws : List (List UInt8)) (zz : Int) (p : Option Addr) (c n : Nat) (w : World) (hu : StrsAt w u ws) (hws : WsWf ws) (hn : n ≤ 9223372036854775807) (hm : nm = []) (hw : ws.length = 0) (hk : n < 2) : NodeR 7 nm u 0 0 (.slice p n c) w false := by
  have B0 := Lib.hid (alloc_at w (xo6 7 nm u 0 0 (.slice p n c)))
  have S0 := Lib.hid (hu.below B0.out)
  have hws' := Lib.hid hws
  have hwl := hws.1
  have he := nm_empty nm
  rw [decide_eq_true hm] at he
  have tn : decide ((0 : Int) < (ws.length : Int)) = false := decide_eq_false (by omega)
  have tn2 : decide (0 < ws.length) = false := decide_eq_false (by omega)
  have tk : decide ((2 : Int) ≤ (n : Int)) = false := decide_eq_false (by omega)
  obtain ⟨pu, cu, rfl, _, _⟩ := hu
  clear hws
  unfold NodeR
  generalize ws.length = nw at *
  (try clear hm)
  (try clear hw)
  (try clear hk)
  go_enter Tryz.func59, Tryz.ntmps59
  go_wp2_with fail
  go_ret
  first | exact ⟨rfl, B0.out⟩ | exact ⟨rfl, below_drewN B0.out _⟩
set_option maxHeartbeats 4000000 in
theorem nd_op8t (nm : List UInt8) (u : Value) (ws : List (List UInt8)) (zz : Int) (p : Option Addr) (c n : Nat) (w : World) (hu : StrsAt w u ws) (hws : WsWf ws) (hn : n ≤ 9223372036854775807) (hm : nm = []) (hw : ws.length = 0) (hk : 2 ≤ n) : NodeR 8 nm u 0 0 (.slice p n c) w true := by
  have B0 := Lib.hid (alloc_at w (xo6 8 nm u 0 0 (.slice p n c)))
  have S0 := Lib.hid (hu.below B0.out)
  have hws' := Lib.hid hws
  have hwl := hws.1
  have he := nm_empty nm
  rw [decide_eq_true hm] at he
  have tn : decide ((0 : Int) < (ws.length : Int)) = false := decide_eq_false (by omega)
  have tn2 : decide (0 < ws.length) = false := decide_eq_false (by omega)
  have tk : decide ((2 : Int) ≤ (n : Int)) = true := decide_eq_true (by omega)
  obtain ⟨pu, cu, rfl, _, _⟩ := hu
  clear hws
  unfold NodeR
  generalize ws.length = nw at *
  (try clear hm)
  (try clear hw)
  (try clear hk)
  go_enter Tryz.func59, Tryz.ntmps59
  go_wp2_with fail
  go_ret
  first | exact ⟨rfl, B0.out⟩ | exact ⟨rfl, below_drewN B0.out _⟩
set_option maxHeartbeats 4000000 in
theorem nd_op8f (nm : List UInt8) (u : Value) (ws : List (List UInt8)) (zz : Int) (p : Option Addr) (c n : Nat) (w : World) (hu : StrsAt w u ws) (hws : WsWf ws) (hn : n ≤ 9223372036854775807) (hm : nm = []) (hw : ws.length = 0) (hk : n < 2) : NodeR 8 nm u 0 0 (.slice p n c) w false := by
  have B0 := Lib.hid (alloc_at w (xo6 8 nm u 0 0 (.slice p n c)))
  have S0 := Lib.hid (hu.below B0.out)
  have hws' := Lib.hid hws
  have hwl := hws.1
  have he := nm_empty nm
  rw [decide_eq_true hm] at he
  have tn : decide ((0 : Int) < (ws.length : Int)) = false := decide_eq_false (by omega)
  have tn2 : decide (0 < ws.length) = false := decide_eq_false (by omega)
  have tk : decide ((2 : Int) ≤ (n : Int)) = false := decide_eq_false (by omega)
  obtain ⟨pu, cu, rfl, _, _⟩ := hu
  clear hws
  unfold NodeR
  generalize ws.length = nw at *
  (try clear hm)
  (try clear hw)
  (try clear hk)
  go_enter Tryz.func59, Tryz.ntmps59
  go_wp2_with fail
  go_ret
  first | exact ⟨rfl, B0.out⟩ | exact ⟨rfl, below_drewN B0.out _⟩
set_option maxHeartbeats 4000000 in
theorem nd_n3 (nm : List UInt8) (u : Value) (ws : List (List UInt8)) (lo hi : Int) (p : Option Addr) (c n : Nat) (w : World) (hu : StrsAt w u ws) (hws : WsWf ws) (hn : n ≤ 9223372036854775807) (hnl : nm.length ≤ 9223372036854775807) (hm : nameB nm = false) : NodeR 3 nm u lo hi (.slice p n c) w false := by
  have B0 := Lib.hid (alloc_at w (xo6 3 nm u lo hi (.slice p n c)))
  have S0 := Lib.hid (hu.below B0.out)
  have hws' := Lib.hid hws
  have hwl := hws.1
  have cN := Lib.hid (fun w => rname_tx nm w hnl)
  rw [hm] at cN
  obtain ⟨pu, cu, rfl, _, _⟩ := hu
  clear hws
  unfold NodeR
  generalize ws.length = nw at *
  (try clear hm)
  (try clear hw)
  (try clear hk)
  go_enter Tryz.func59, Tryz.ntmps59
  go_wp2_with fail
  refine (cN.out _).mono ?_; rintro e w' ⟨rfl, rfl⟩
  go_wp2_with fail
  go_ret
  first | exact ⟨rfl, B0.out⟩ | exact ⟨rfl, below_drewN B0.out _⟩
set_option maxHeartbeats 4000000 in
theorem nd_n4 (nm : List UInt8) (u : Value) (ws : List (List UInt8)) (lo hi : Int) (p : Option Addr) (c n : Nat) (w : World) (hu : StrsAt w u ws) (hws : WsWf ws) (hn : n ≤ 9223372036854775807) (hnl : nm.length ≤ 9223372036854775807) (hm : nameB nm = false) : NodeR 4 nm u lo hi (.slice p n c) w false := by
  have B0 := Lib.hid (alloc_at w (xo6 4 nm u lo hi (.slice p n c)))
  have S0 := Lib.hid (hu.below B0.out)
  have hws' := Lib.hid hws
  have hwl := hws.1
  have cN := Lib.hid (fun w => rname_tx nm w hnl)
  rw [hm] at cN
  obtain ⟨pu, cu, rfl, _, _⟩ := hu
  clear hws
  unfold NodeR
  generalize ws.length = nw at *
  (try clear hm)
  (try clear hw)
  (try clear hk)
  go_enter Tryz.func59, Tryz.ntmps59
  go_wp2_with fail
  refine (cN.out _).mono ?_; rintro e w' ⟨rfl, rfl⟩
  go_wp2_with fail
  go_ret
  first | exact ⟨rfl, B0.out⟩ | exact ⟨rfl, below_drewN B0.out _⟩
set_option maxHeartbeats 4000000 in
theorem nd_n5 (nm : List UInt8) (u : Value) (ws : List (List UInt8)) (lo hi : Int) (p : Option Addr) (c n : Nat) (w : World) (hu : StrsAt w u ws) (hws : WsWf ws) (hn : n ≤ 9223372036854775807) (hnl : nm.length ≤ 9223372036854775807) (hm : nameB nm = false) : NodeR 5 nm u lo hi (.slice p n c) w false := by
  have B0 := Lib.hid (alloc_at w (xo6 5 nm u lo hi (.slice p n c)))
  have S0 := Lib.hid (hu.below B0.out)
  have hws' := Lib.hid hws
  have hwl := hws.1
  have cN := Lib.hid (fun w => rname_tx nm w hnl)
  rw [hm] at cN
  obtain ⟨pu, cu, rfl, _, _⟩ := hu
  clear hws
  unfold NodeR
  generalize ws.length = nw at *
  (try clear hm)
  (try clear hw)
  (try clear hk)
  go_enter Tryz.func59, Tryz.ntmps59
  go_wp2_with fail
  refine (cN.out _).mono ?_; rintro e w' ⟨rfl, rfl⟩
  go_wp2_with fail
  go_ret
  first | exact ⟨rfl, B0.out⟩ | exact ⟨rfl, below_drewN B0.out _⟩
set_option maxHeartbeats 4000000 in
theorem nd_w3 (nm : List UInt8) (u : Value) (ws : List (List UInt8)) (lo hi : Int) (p : Option Addr) (c n : Nat) (w : World) (hu : StrsAt w u ws) (hws : WsWf ws) (hn : n ≤ 9223372036854775807) (hnl : nm.length ≤ 9223372036854775807) (hm : nameB nm = true) (hw : 0 < ws.length) : NodeR 3 nm u lo hi (.slice p n c) w false := by
  have B0 := Lib.hid (alloc_at w (xo6 3 nm u lo hi (.slice p n c)))
  have S0 := Lib.hid (hu.below B0.out)
  have hws' := Lib.hid hws
  have hwl := hws.1
  have cN := Lib.hid (fun w => rname_tx nm w hnl)
  rw [hm] at cN
  have tn : decide ((0 : Int) < (ws.length : Int)) = true := decide_eq_true (by omega)
  have tn2 : decide (0 < ws.length) = true := decide_eq_true (by omega)
  obtain ⟨pu, cu, rfl, _, _⟩ := hu
  clear hws
  unfold NodeR
  generalize ws.length = nw at *
  (try clear hm)
  (try clear hw)
  (try clear hk)
  go_enter Tryz.func59, Tryz.ntmps59
  go_wp2_with fail
  refine (cN.out _).mono ?_; rintro e w' ⟨rfl, rfl⟩
  go_wp2_with fail
  go_ret
  first | exact ⟨rfl, B0.out⟩ | exact ⟨rfl, below_drewN B0.out _⟩
set_option maxHeartbeats 4000000 in
theorem nd_w5 (nm : List UInt8) (u : Value) (ws : List (List UInt8)) (lo hi : Int) (p : Option Addr) (c n : Nat) (w : World) (hu : StrsAt w u ws) (hws : WsWf ws) (hn : n ≤ 9223372036854775807) (hnl : nm.length ≤ 9223372036854775807) (hm : nameB nm = true) (hw : 0 < ws.length) : NodeR 5 nm u lo hi (.slice p n c) w false := by
  have B0 := Lib.hid (alloc_at w (xo6 5 nm u lo hi (.slice p n c)))
  have S0 := Lib.hid (hu.below B0.out)
  have hws' := Lib.hid hws
  have hwl := hws.1
  have cN := Lib.hid (fun w => rname_tx nm w hnl)
  rw [hm] at cN
  have tn : decide ((0 : Int) < (ws.length : Int)) = true := decide_eq_true (by omega)
  have tn2 : decide (0 < ws.length) = true := decide_eq_true (by omega)
  obtain ⟨pu, cu, rfl, _, _⟩ := hu
  clear hws
  unfold NodeR
  generalize ws.length = nw at *
  (try clear hm)
  (try clear hw)
  (try clear hk)
  go_enter Tryz.func59, Tryz.ntmps59
  go_wp2_with fail
  refine (cN.out _).mono ?_; rintro e w' ⟨rfl, rfl⟩
  go_wp2_with fail
  go_ret
  first | exact ⟨rfl, B0.out⟩ | exact ⟨rfl, below_drewN B0.out _⟩
set_option maxHeartbeats 4000000 in
theorem nd_l3 (nm : List UInt8) (u : Value) (ws : List (List UInt8)) (lo hi : Int) (p : Option Addr) (c n : Nat) (w : World) (hu : StrsAt w u ws) (hws : WsWf ws) (hn : n ≤ 9223372036854775807) (hnl : nm.length ≤ 9223372036854775807) (hm : nameB nm = true) (hw : ws.length = 0) (hl : lo ≠ 0) : NodeR 3 nm u lo hi (.slice p n c) w false := by
  have B0 := Lib.hid (alloc_at w (xo6 3 nm u lo hi (.slice p n c)))
  have S0 := Lib.hid (hu.below B0.out)
  have hws' := Lib.hid hws
  have hwl := hws.1
  have cN := Lib.hid (fun w => rname_tx nm w hnl)
  rw [hm] at cN
  have tn : decide ((0 : Int) < (ws.length : Int)) = false := decide_eq_false (by omega)
  have tn2 : decide (0 < ws.length) = false := decide_eq_false (by omega)
  have l1 : (lo == 0) = false := by simpa using hl
  obtain ⟨pu, cu, rfl, _, _⟩ := hu
  clear hws
  unfold NodeR
  generalize ws.length = nw at *
  (try clear hm)
  (try clear hw)
  (try clear hk)
  go_enter Tryz.func59, Tryz.ntmps59
  go_wp2_with fail
  refine (cN.out _).mono ?_; rintro e w' ⟨rfl, rfl⟩
  go_wp2_with fail
  go_ret
  first | exact ⟨rfl, B0.out⟩ | exact ⟨rfl, below_drewN B0.out _⟩
set_option maxHeartbeats 4000000 in
theorem nd_h3 (nm : List UInt8) (u : Value) (ws : List (List UInt8)) (hi : Int) (p : Option Addr) (c n : Nat) (w : World) (hu : StrsAt w u ws) (hws : WsWf ws) (hn : n ≤ 9223372036854775807) (hnl : nm.length ≤ 9223372036854775807) (hm : nameB nm = true) (hw : ws.length = 0) (hl : hi ≠ 0) : NodeR 3 nm u 0 hi (.slice p n c) w false := by
  have B0 := Lib.hid (alloc_at w (xo6 3 nm u 0 hi (.slice p n c)))
  have S0 := Lib.hid (hu.below B0.out)
  have hws' := Lib.hid hws
  have hwl := hws.1
  have cN := Lib.hid (fun w => rname_tx nm w hnl)
  rw [hm] at cN
  have tn : decide ((0 : Int) < (ws.length : Int)) = false := decide_eq_false (by omega)
  have tn2 : decide (0 < ws.length) = false := decide_eq_false (by omega)
  have l2 : (hi == 0) = false := by simpa using hl
  obtain ⟨pu, cu, rfl, _, _⟩ := hu
  clear hws
  unfold NodeR
  generalize ws.length = nw at *
  (try clear hm)
  (try clear hw)
  (try clear hk)
  go_enter Tryz.func59, Tryz.ntmps59
  go_wp2_with fail
  refine (cN.out _).mono ?_; rintro e w' ⟨rfl, rfl⟩
  go_wp2_with fail
  go_ret
  first | exact ⟨rfl, B0.out⟩ | exact ⟨rfl, below_drewN B0.out _⟩
set_option maxHeartbeats 4000000 in
theorem nd_k3t (nm : List UInt8) (u : Value) (ws : List (List UInt8)) (zz : Int) (p : Option Addr) (c n : Nat) (w : World) (hu : StrsAt w u ws) (hws : WsWf ws) (hn : n ≤ 9223372036854775807) (hnl : nm.length ≤ 9223372036854775807) (hm : nameB nm = true) (hw : ws.length = 0) (hk : n = 0) : NodeR 3 nm u 0 0 (.slice p n c) w true := by
  have B0 := Lib.hid (alloc_at w (xo6 3 nm u 0 0 (.slice p n c)))
  have S0 := Lib.hid (hu.below B0.out)
  have hws' := Lib.hid hws
  have hwl := hws.1
  have cN := Lib.hid (fun w => rname_tx nm w hnl)
  rw [hm] at cN
  have tn : decide ((0 : Int) < (ws.length : Int)) = false := decide_eq_false (by omega)
  have tn2 : decide (0 < ws.length) = false := decide_eq_false (by omega)
  have tk : ((n : Int) == 0) = true := by simp; omega
  obtain ⟨pu, cu, rfl, _, _⟩ := hu
  clear hws
  unfold NodeR
  generalize ws.length = nw at *
  (try clear hm)
  (try clear hw)
  (try clear hk)
  go_enter Tryz.func59, Tryz.ntmps59
  go_wp2_with fail
  refine (cN.out _).mono ?_; rintro e w' ⟨rfl, rfl⟩
  go_wp2_with fail
  go_ret
  first | exact ⟨rfl, B0.out⟩ | exact ⟨rfl, below_drewN B0.out _⟩
set_option maxHeartbeats 4000000 in
theorem nd_k3f (nm : List UInt8) (u : Value) (ws : List (List UInt8)) (zz : Int) (p : Option Addr) (c n : Nat) (w : World) (hu : StrsAt w u ws) (hws : WsWf ws) (hn : n ≤ 9223372036854775807) (hnl : nm.length ≤ 9223372036854775807) (hm : nameB nm = true) (hw : ws.length = 0) (hk : n ≠ 0) : NodeR 3 nm u 0 0 (.slice p n c) w false := by
  have B0 := Lib.hid (alloc_at w (xo6 3 nm u 0 0 (.slice p n c)))
  have S0 := Lib.hid (hu.below B0.out)
  have hws' := Lib.hid hws
  have hwl := hws.1
  have cN := Lib.hid (fun w => rname_tx nm w hnl)
  rw [hm] at cN
  have tn : decide ((0 : Int) < (ws.length : Int)) = false := decide_eq_false (by omega)
  have tn2 : decide (0 < ws.length) = false := decide_eq_false (by omega)
  have tk : ((n : Int) == 0) = false := by simp; omega
  obtain ⟨pu, cu, rfl, _, _⟩ := hu
  clear hws
  unfold NodeR
  generalize ws.length = nw at *
  (try clear hm)
  (try clear hw)
  (try clear hk)
  go_enter Tryz.func59, Tryz.ntmps59
  go_wp2_with fail
  refine (cN.out _).mono ?_; rintro e w' ⟨rfl, rfl⟩
  go_wp2_with fail
  go_ret
  first | exact ⟨rfl, B0.out⟩ | exact ⟨rfl, below_drewN B0.out _⟩
set_option maxHeartbeats 4000000 in
theorem nd_f5a (nm : List UInt8) (u : Value) (ws : List (List UInt8)) (lo hi : Int) (p : Option Addr) (c n : Nat) (w : World) (hu : StrsAt w u ws) (hws : WsWf ws) (hn : n ≤ 9223372036854775807) (hnl : nm.length ≤ 9223372036854775807) (hm : nameB nm = true) (hlo : -9223372036854775808 ≤ lo ∧ lo ≤ 9223372036854775807) (hhi : -9223372036854775808 ≤ hi ∧ hi ≤ 9223372036854775807) (hw : ws.length = 0) (h1 : farB lo = true) : NodeR 5 nm u lo hi (.slice p n c) w false := by
  have B0 := Lib.hid (alloc_at w (xo6 5 nm u lo hi (.slice p n c)))
  have S0 := Lib.hid (hu.below B0.out)
  have hws' := Lib.hid hws
  have hwl := hws.1
  have cN := Lib.hid (fun w => rname_tx nm w hnl)
  rw [hm] at cN
  have tn : decide ((0 : Int) < (ws.length : Int)) = false := decide_eq_false (by omega)
  have tn2 : decide (0 < ws.length) = false := decide_eq_false (by omega)
  have c1 := Lib.hid (fun w => rfar_any lo w hlo.1 hlo.2)
  have c2 := Lib.hid (fun w => rfar_any hi w hhi.1 hhi.2)
  rw [h1] at c1
  obtain ⟨pu, cu, rfl, _, _⟩ := hu
  clear hws
  unfold NodeR
  generalize ws.length = nw at *
  (try clear hm)
  (try clear hw)
  (try clear hk)
  go_enter Tryz.func59, Tryz.ntmps59
  go_wp2_with fail
  refine (cN.out _).mono ?_; rintro e w' ⟨rfl, rfl⟩
  go_wp2_with fail
  refine (c1.out _).mono ?_; rintro e w' ⟨rfl, rfl⟩
  go_wp2_with fail
  go_ret
  first | exact ⟨rfl, B0.out⟩ | exact ⟨rfl, below_drewN B0.out _⟩
set_option maxHeartbeats 4000000 in
theorem nd_f5b (nm : List UInt8) (u : Value) (ws : List (List UInt8)) (lo hi : Int) (p : Option Addr) (c n : Nat) (w : World) (hu : StrsAt w u ws) (hws : WsWf ws) (hn : n ≤ 9223372036854775807) (hnl : nm.length ≤ 9223372036854775807) (hm : nameB nm = true) (hlo : -9223372036854775808 ≤ lo ∧ lo ≤ 9223372036854775807) (hhi : -9223372036854775808 ≤ hi ∧ hi ≤ 9223372036854775807) (hw : ws.length = 0) (h1 : farB lo = false) (h2 : farB hi = true) : NodeR 5 nm u lo hi (.slice p n c) w false := by
  have B0 := Lib.hid (alloc_at w (xo6 5 nm u lo hi (.slice p n c)))
  have S0 := Lib.hid (hu.below B0.out)
  have hws' := Lib.hid hws
  have hwl := hws.1
  have cN := Lib.hid (fun w => rname_tx nm w hnl)
  rw [hm] at cN
  have tn : decide ((0 : Int) < (ws.length : Int)) = false := decide_eq_false (by omega)
  have tn2 : decide (0 < ws.length) = false := decide_eq_false (by omega)
  have c1 := Lib.hid (fun w => rfar_any lo w hlo.1 hlo.2)
  have c2 := Lib.hid (fun w => rfar_any hi w hhi.1 hhi.2)
  rw [h1] at c1
  rw [h2] at c2
  obtain ⟨pu, cu, rfl, _, _⟩ := hu
  clear hws
  unfold NodeR
  generalize ws.length = nw at *
  (try clear hm)
  (try clear hw)
  (try clear hk)
  go_enter Tryz.func59, Tryz.ntmps59
  go_wp2_with fail
  refine (cN.out _).mono ?_; rintro e w' ⟨rfl, rfl⟩
  go_wp2_with fail
  refine (c1.out _).mono ?_; rintro e w' ⟨rfl, rfl⟩
  go_wp2_with fail
  refine (c2.out _).mono ?_; rintro e w' ⟨rfl, rfl⟩
  go_wp2_with fail
  go_ret
  first | exact ⟨rfl, B0.out⟩ | exact ⟨rfl, below_drewN B0.out _⟩
set_option maxHeartbeats 4000000 in
theorem nd_f5c (nm : List UInt8) (u : Value) (ws : List (List UInt8)) (lo hi : Int) (p : Option Addr) (c n : Nat) (w : World) (hu : StrsAt w u ws) (hws : WsWf ws) (hn : n ≤ 9223372036854775807) (hnl : nm.length ≤ 9223372036854775807) (hm : nameB nm = true) (hlo : -9223372036854775808 ≤ lo ∧ lo ≤ 9223372036854775807) (hhi : -9223372036854775808 ≤ hi ∧ hi ≤ 9223372036854775807) (hw : ws.length = 0) (h1 : farB lo = false) (h2 : farB hi = false) (h3 : hi < lo) : NodeR 5 nm u lo hi (.slice p n c) w false := by
  have B0 := Lib.hid (alloc_at w (xo6 5 nm u lo hi (.slice p n c)))
  have S0 := Lib.hid (hu.below B0.out)
  have hws' := Lib.hid hws
  have hwl := hws.1
  have cN := Lib.hid (fun w => rname_tx nm w hnl)
  rw [hm] at cN
  have tn : decide ((0 : Int) < (ws.length : Int)) = false := decide_eq_false (by omega)
  have tn2 : decide (0 < ws.length) = false := decide_eq_false (by omega)
  have c1 := Lib.hid (fun w => rfar_any lo w hlo.1 hlo.2)
  have c2 := Lib.hid (fun w => rfar_any hi w hhi.1 hhi.2)
  rw [h1] at c1
  rw [h2] at c2
  have tq : decide (hi < lo) = true := decide_eq_true h3
  obtain ⟨pu, cu, rfl, _, _⟩ := hu
  clear hws
  unfold NodeR
  generalize ws.length = nw at *
  (try clear hm)
  (try clear hw)
  (try clear hk)
  go_enter Tryz.func59, Tryz.ntmps59
  go_wp2_with fail
  refine (cN.out _).mono ?_; rintro e w' ⟨rfl, rfl⟩
  go_wp2_with fail
  refine (c1.out _).mono ?_; rintro e w' ⟨rfl, rfl⟩
  go_wp2_with fail
  refine (c2.out _).mono ?_; rintro e w' ⟨rfl, rfl⟩
  go_wp2_with fail
  go_ret
  first | exact ⟨rfl, B0.out⟩ | exact ⟨rfl, below_drewN B0.out _⟩
set_option maxHeartbeats 4000000 in
theorem nd_k5t (nm : List UInt8) (u : Value) (ws : List (List UInt8)) (lo hi : Int) (p : Option Addr) (c n : Nat) (w : World) (hu : StrsAt w u ws) (hws : WsWf ws) (hn : n ≤ 9223372036854775807) (hnl : nm.length ≤ 9223372036854775807) (hm : nameB nm = true) (hlo : -9223372036854775808 ≤ lo ∧ lo ≤ 9223372036854775807) (hhi : -9223372036854775808 ≤ hi ∧ hi ≤ 9223372036854775807) (hw : ws.length = 0) (h1 : farB lo = false) (h2 : farB hi = false) (h3 : lo ≤ hi) (hk : n = 0) : NodeR 5 nm u lo hi (.slice p n c) w true := by
  have B0 := Lib.hid (alloc_at w (xo6 5 nm u lo hi (.slice p n c)))
  have S0 := Lib.hid (hu.below B0.out)
  have hws' := Lib.hid hws
  have hwl := hws.1
  have cN := Lib.hid (fun w => rname_tx nm w hnl)
  rw [hm] at cN
  have tn : decide ((0 : Int) < (ws.length : Int)) = false := decide_eq_false (by omega)
  have tn2 : decide (0 < ws.length) = false := decide_eq_false (by omega)
  have c1 := Lib.hid (fun w => rfar_any lo w hlo.1 hlo.2)
  have c2 := Lib.hid (fun w => rfar_any hi w hhi.1 hhi.2)
  rw [h1] at c1
  rw [h2] at c2
  have tq : decide (hi < lo) = false := decide_eq_false (by omega)
  have tk : ((n : Int) == 0) = true := by simp; omega
  obtain ⟨pu, cu, rfl, _, _⟩ := hu
  clear hws
  unfold NodeR
  generalize ws.length = nw at *
  (try clear hm)
  (try clear hw)
  (try clear hk)
  go_enter Tryz.func59, Tryz.ntmps59
  go_wp2_with fail
  refine (cN.out _).mono ?_; rintro e w' ⟨rfl, rfl⟩
  go_wp2_with fail
  refine (c1.out _).mono ?_; rintro e w' ⟨rfl, rfl⟩
  go_wp2_with fail
  refine (c2.out _).mono ?_; rintro e w' ⟨rfl, rfl⟩
  go_wp2_with fail
  go_ret
  first | exact ⟨rfl, B0.out⟩ | exact ⟨rfl, below_drewN B0.out _⟩
set_option maxHeartbeats 4000000 in
theorem nd_k5f (nm : List UInt8) (u : Value) (ws : List (List UInt8)) (lo hi : Int) (p : Option Addr) (c n : Nat) (w : World) (hu : StrsAt w u ws) (hws : WsWf ws) (hn : n ≤ 9223372036854775807) (hnl : nm.length ≤ 9223372036854775807) (hm : nameB nm = true) (hlo : -9223372036854775808 ≤ lo ∧ lo ≤ 9223372036854775807) (hhi : -9223372036854775808 ≤ hi ∧ hi ≤ 9223372036854775807) (hw : ws.length = 0) (h1 : farB lo = false) (h2 : farB hi = false) (h3 : lo ≤ hi) (hk : n ≠ 0) : NodeR 5 nm u lo hi (.slice p n c) w false := by
  have B0 := Lib.hid (alloc_at w (xo6 5 nm u lo hi (.slice p n c)))
  have S0 := Lib.hid (hu.below B0.out)
  have hws' := Lib.hid hws
  have hwl := hws.1
  have cN := Lib.hid (fun w => rname_tx nm w hnl)
  rw [hm] at cN
  have tn : decide ((0 : Int) < (ws.length : Int)) = false := decide_eq_false (by omega)
  have tn2 : decide (0 < ws.length) = false := decide_eq_false (by omega)
  have c1 := Lib.hid (fun w => rfar_any lo w hlo.1 hlo.2)
  have c2 := Lib.hid (fun w => rfar_any hi w hhi.1 hhi.2)
  rw [h1] at c1
  rw [h2] at c2
  have tq : decide (hi < lo) = false := decide_eq_false (by omega)
  have tk : ((n : Int) == 0) = false := by simp; omega
  obtain ⟨pu, cu, rfl, _, _⟩ := hu
  clear hws
  unfold NodeR
  generalize ws.length = nw at *
  (try clear hm)
  (try clear hw)
  (try clear hk)
  go_enter Tryz.func59, Tryz.ntmps59
  go_wp2_with fail
  refine (cN.out _).mono ?_; rintro e w' ⟨rfl, rfl⟩
  go_wp2_with fail
  refine (c1.out _).mono ?_; rintro e w' ⟨rfl, rfl⟩
  go_wp2_with fail
  refine (c2.out _).mono ?_; rintro e w' ⟨rfl, rfl⟩
  go_wp2_with fail
  go_ret
  first | exact ⟨rfl, B0.out⟩ | exact ⟨rfl, below_drewN B0.out _⟩
set_option maxHeartbeats 4000000 in
theorem nd_a4 (nm : List UInt8) (u : Value) (ws : List (List UInt8)) (lo hi : Int) (p : Option Addr) (c n : Nat) (w : World) (hu : StrsAt w u ws) (hws : WsWf ws) (hn : n ≤ 9223372036854775807) (hnl : nm.length ≤ 9223372036854775807) (hm : nameB nm = true) (hw : ws.length = 0) : NodeR 4 nm u lo hi (.slice p n c) w false := by
  have B0 := Lib.hid (alloc_at w (xo6 4 nm u lo hi (.slice p n c)))
  have S0 := Lib.hid (hu.below B0.out)
  have hws' := Lib.hid hws
  have hwl := hws.1
  have cN := Lib.hid (fun w => rname_tx nm w hnl)
  rw [hm] at cN
  have q1 : decide ((ws.length : Int) < 1) = true := decide_eq_true (by omega)
  have q2 : decide ((12 : Int) < (ws.length : Int)) = false := decide_eq_false (by omega)
  have q3 : decide (ws.length < 1) = true := decide_eq_true (by omega)
  have q4 : decide (12 < ws.length) = false := decide_eq_false (by omega)
  obtain ⟨pu, cu, rfl, _, _⟩ := hu
  clear hws
  unfold NodeR
  generalize ws.length = nw at *
  (try clear hm)
  (try clear hw)
  (try clear hk)
  go_enter Tryz.func59, Tryz.ntmps59
  go_wp2_with fail
  refine (cN.out _).mono ?_; rintro e w' ⟨rfl, rfl⟩
  go_wp2_with fail
  go_ret
  first | exact ⟨rfl, B0.out⟩ | exact ⟨rfl, below_drewN B0.out _⟩
set_option maxHeartbeats 4000000 in
theorem nd_b4 (nm : List UInt8) (u : Value) (ws : List (List UInt8)) (lo hi : Int) (p : Option Addr) (c n : Nat) (w : World) (hu : StrsAt w u ws) (hws : WsWf ws) (hn : n ≤ 9223372036854775807) (hnl : nm.length ≤ 9223372036854775807) (hm : nameB nm = true) (hw : 12 < ws.length) : NodeR 4 nm u lo hi (.slice p n c) w false := by
  have B0 := Lib.hid (alloc_at w (xo6 4 nm u lo hi (.slice p n c)))
  have S0 := Lib.hid (hu.below B0.out)
  have hws' := Lib.hid hws
  have hwl := hws.1
  have cN := Lib.hid (fun w => rname_tx nm w hnl)
  rw [hm] at cN
  have q1 : decide ((ws.length : Int) < 1) = false := decide_eq_false (by omega)
  have q2 : decide ((12 : Int) < (ws.length : Int)) = true := decide_eq_true (by omega)
  have q3 : decide (ws.length < 1) = false := decide_eq_false (by omega)
  have q4 : decide (12 < ws.length) = true := decide_eq_true (by omega)
  obtain ⟨pu, cu, rfl, _, _⟩ := hu
  clear hws
  unfold NodeR
  generalize ws.length = nw at *
  (try clear hm)
  (try clear hw)
  (try clear hk)
  go_enter Tryz.func59, Tryz.ntmps59
  go_wp2_with fail
  refine (cN.out _).mono ?_; rintro e w' ⟨rfl, rfl⟩
  go_wp2_with fail
  go_ret
  first | exact ⟨rfl, B0.out⟩ | exact ⟨rfl, below_drewN B0.out _⟩
set_option maxHeartbeats 4000000 in
theorem nd_c4 (nm : List UInt8) (u : Value) (ws : List (List UInt8)) (lo hi : Int) (p : Option Addr) (c n : Nat) (w : World) (hu : StrsAt w u ws) (hws : WsWf ws) (hn : n ≤ 9223372036854775807) (hnl : nm.length ≤ 9223372036854775807) (hm : nameB nm = true) (hw : 1 ≤ ws.length ∧ ws.length ≤ 12) (h1 : namesB ws = false) : NodeR 4 nm u lo hi (.slice p n c) w false := by
  have B0 := Lib.hid (alloc_at w (xo6 4 nm u lo hi (.slice p n c)))
  have S0 := Lib.hid (hu.below B0.out)
  have hws' := Lib.hid hws
  have hwl := hws.1
  have cN := Lib.hid (fun w => rname_tx nm w hnl)
  rw [hm] at cN
  have q1 : decide ((ws.length : Int) < 1) = false := decide_eq_false (by omega)
  have q2 : decide ((12 : Int) < (ws.length : Int)) = false := decide_eq_false (by omega)
  have q3 : decide (ws.length < 1) = false := decide_eq_false (by omega)
  have q4 : decide (12 < ws.length) = false := decide_eq_false (by omega)
  have cW := Lib.hid (fun w (h : StrsAt w u ws) => rnames_any u ws w h hws)
  have cD := Lib.hid (fun w (h : StrsAt w u ws) => rdist_any u ws w h hws)
  rw [h1] at cW
  obtain ⟨pu, cu, rfl, _, _⟩ := hu
  clear hws
  unfold NodeR
  generalize ws.length = nw at *
  (try clear hm)
  (try clear hw)
  (try clear hk)
  go_enter Tryz.func59, Tryz.ntmps59
  go_wp2_with fail
  refine (cN.out _).mono ?_; rintro e w' ⟨rfl, rfl⟩
  go_wp2_with fail
  refine (cW.out _ S0.out).mono ?_; rintro e w' ⟨rfl, rfl⟩
  go_wp2_with fail
  go_ret
  first | exact ⟨rfl, B0.out⟩ | exact ⟨rfl, below_drewN B0.out _⟩
set_option maxHeartbeats 4000000 in
theorem nd_d4 (nm : List UInt8) (u : Value) (ws : List (List UInt8)) (lo hi : Int) (p : Option Addr) (c n : Nat) (w : World) (hu : StrsAt w u ws) (hws : WsWf ws) (hn : n ≤ 9223372036854775807) (hnl : nm.length ≤ 9223372036854775807) (hm : nameB nm = true) (hw : 1 ≤ ws.length ∧ ws.length ≤ 12) (h1 : namesB ws = true) (h2 : distB ws = false) : NodeR 4 nm u lo hi (.slice p n c) w false := by
  have B0 := Lib.hid (alloc_at w (xo6 4 nm u lo hi (.slice p n c)))
  have S0 := Lib.hid (hu.below B0.out)
  have hws' := Lib.hid hws
  have hwl := hws.1
  have cN := Lib.hid (fun w => rname_tx nm w hnl)
  rw [hm] at cN
  have q1 : decide ((ws.length : Int) < 1) = false := decide_eq_false (by omega)
  have q2 : decide ((12 : Int) < (ws.length : Int)) = false := decide_eq_false (by omega)
  have q3 : decide (ws.length < 1) = false := decide_eq_false (by omega)
  have q4 : decide (12 < ws.length) = false := decide_eq_false (by omega)
  have cW := Lib.hid (fun w (h : StrsAt w u ws) => rnames_any u ws w h hws)
  have cD := Lib.hid (fun w (h : StrsAt w u ws) => rdist_any u ws w h hws)
  rw [h1] at cW
  rw [h2] at cD
  obtain ⟨pu, cu, rfl, _, _⟩ := hu
  clear hws
  unfold NodeR
  generalize ws.length = nw at *
  (try clear hm)
  (try clear hw)
  (try clear hk)
  go_enter Tryz.func59, Tryz.ntmps59
  go_wp2_with fail
  refine (cN.out _).mono ?_; rintro e w' ⟨rfl, rfl⟩
  go_wp2_with fail
  refine (cW.out _ S0.out).mono ?_; rintro e w' ⟨rfl, rfl⟩
  go_wp2_with fail
  refine (cD.out _ S0.out).mono ?_; rintro e w' ⟨rfl, nq, rfl⟩
  go_wp2_with fail
  go_ret
  first | exact ⟨rfl, B0.out⟩ | exact ⟨rfl, below_drewN B0.out _⟩
set_option maxHeartbeats 4000000 in
theorem nd_l4 (nm : List UInt8) (u : Value) (ws : List (List UInt8)) (lo hi : Int) (p : Option Addr) (c n : Nat) (w : World) (hu : StrsAt w u ws) (hws : WsWf ws) (hn : n ≤ 9223372036854775807) (hnl : nm.length ≤ 9223372036854775807) (hm : nameB nm = true) (hw : 1 ≤ ws.length ∧ ws.length ≤ 12) (h1 : namesB ws = true) (h2 : distB ws = true) (hl : lo ≠ 0) : NodeR 4 nm u lo hi (.slice p n c) w false := by
  have B0 := Lib.hid (alloc_at w (xo6 4 nm u lo hi (.slice p n c)))
  have S0 := Lib.hid (hu.below B0.out)
  have hws' := Lib.hid hws
  have hwl := hws.1
  have cN := Lib.hid (fun w => rname_tx nm w hnl)
  rw [hm] at cN
  have q1 : decide ((ws.length : Int) < 1) = false := decide_eq_false (by omega)
  have q2 : decide ((12 : Int) < (ws.length : Int)) = false := decide_eq_false (by omega)
  have q3 : decide (ws.length < 1) = false := decide_eq_false (by omega)
  have q4 : decide (12 < ws.length) = false := decide_eq_false (by omega)
  have cW := Lib.hid (fun w (h : StrsAt w u ws) => rnames_any u ws w h hws)
  have cD := Lib.hid (fun w (h : StrsAt w u ws) => rdist_any u ws w h hws)
  rw [h1] at cW
  rw [h2] at cD
  have l1 : (lo == 0) = false := by simpa using hl
  obtain ⟨pu, cu, rfl, _, _⟩ := hu
  clear hws
  unfold NodeR
  generalize ws.length = nw at *
  (try clear hm)
  (try clear hw)
  (try clear hk)
  go_enter Tryz.func59, Tryz.ntmps59
  go_wp2_with fail
  refine (cN.out _).mono ?_; rintro e w' ⟨rfl, rfl⟩
  go_wp2_with fail
  refine (cW.out _ S0.out).mono ?_; rintro e w' ⟨rfl, rfl⟩
  go_wp2_with fail
  refine (cD.out _ S0.out).mono ?_; rintro e w' ⟨rfl, nq, rfl⟩
  go_wp2_with fail
  go_ret
  first | exact ⟨rfl, B0.out⟩ | exact ⟨rfl, below_drewN B0.out _⟩
set_option maxHeartbeats 4000000 in
theorem nd_h4 (nm : List UInt8) (u : Value) (ws : List (List UInt8)) (hi : Int) (p : Option Addr) (c n : Nat) (w : World) (hu : StrsAt w u ws) (hws : WsWf ws) (hn : n ≤ 9223372036854775807) (hnl : nm.length ≤ 9223372036854775807) (hm : nameB nm = true) (hw : 1 ≤ ws.length ∧ ws.length ≤ 12) (h1 : namesB ws = true) (h2 : distB ws = true) (hl : hi ≠ 0) : NodeR 4 nm u 0 hi (.slice p n c) w false := by
  have B0 := Lib.hid (alloc_at w (xo6 4 nm u 0 hi (.slice p n c)))
  have S0 := Lib.hid (hu.below B0.out)
  have hws' := Lib.hid hws
  have hwl := hws.1
  have cN := Lib.hid (fun w => rname_tx nm w hnl)
  rw [hm] at cN
  have q1 : decide ((ws.length : Int) < 1) = false := decide_eq_false (by omega)
  have q2 : decide ((12 : Int) < (ws.length : Int)) = false := decide_eq_false (by omega)
  have q3 : decide (ws.length < 1) = false := decide_eq_false (by omega)
  have q4 : decide (12 < ws.length) = false := decide_eq_false (by omega)
  have cW := Lib.hid (fun w (h : StrsAt w u ws) => rnames_any u ws w h hws)
  have cD := Lib.hid (fun w (h : StrsAt w u ws) => rdist_any u ws w h hws)
  rw [h1] at cW
  rw [h2] at cD
  have l2 : (hi == 0) = false := by simpa using hl
  obtain ⟨pu, cu, rfl, _, _⟩ := hu
  clear hws
  unfold NodeR
  generalize ws.length = nw at *
  (try clear hm)
  (try clear hw)
  (try clear hk)
  go_enter Tryz.func59, Tryz.ntmps59
  go_wp2_with fail
  refine (cN.out _).mono ?_; rintro e w' ⟨rfl, rfl⟩
  go_wp2_with fail
  refine (cW.out _ S0.out).mono ?_; rintro e w' ⟨rfl, rfl⟩
  go_wp2_with fail
  refine (cD.out _ S0.out).mono ?_; rintro e w' ⟨rfl, nq, rfl⟩
  go_wp2_with fail
  go_ret
  first | exact ⟨rfl, B0.out⟩ | exact ⟨rfl, below_drewN B0.out _⟩
set_option maxHeartbeats 4000000 in
theorem nd_k4t (nm : List UInt8) (u : Value) (ws : List (List UInt8)) (zz : Int) (p : Option Addr) (c n : Nat) (w : World) (hu : StrsAt w u ws) (hws : WsWf ws) (hn : n ≤ 9223372036854775807) (hnl : nm.length ≤ 9223372036854775807) (hm : nameB nm = true) (hw : 1 ≤ ws.length ∧ ws.length ≤ 12) (h1 : namesB ws = true) (h2 : distB ws = true) (hk : n = 0) : NodeR 4 nm u 0 0 (.slice p n c) w true := by
  have B0 := Lib.hid (alloc_at w (xo6 4 nm u 0 0 (.slice p n c)))
  have S0 := Lib.hid (hu.below B0.out)
  have hws' := Lib.hid hws
  have hwl := hws.1
  have cN := Lib.hid (fun w => rname_tx nm w hnl)
  rw [hm] at cN
  have q1 : decide ((ws.length : Int) < 1) = false := decide_eq_false (by omega)
  have q2 : decide ((12 : Int) < (ws.length : Int)) = false := decide_eq_false (by omega)
  have q3 : decide (ws.length < 1) = false := decide_eq_false (by omega)
  have q4 : decide (12 < ws.length) = false := decide_eq_false (by omega)
  have cW := Lib.hid (fun w (h : StrsAt w u ws) => rnames_any u ws w h hws)
  have cD := Lib.hid (fun w (h : StrsAt w u ws) => rdist_any u ws w h hws)
  rw [h1] at cW
  rw [h2] at cD
  have tk : ((n : Int) == 0) = true := by simp; omega
  obtain ⟨pu, cu, rfl, _, _⟩ := hu
  clear hws
  unfold NodeR
  generalize ws.length = nw at *
  (try clear hm)
  (try clear hw)
  (try clear hk)
  go_enter Tryz.func59, Tryz.ntmps59
  go_wp2_with fail
  refine (cN.out _).mono ?_; rintro e w' ⟨rfl, rfl⟩
  go_wp2_with fail
  refine (cW.out _ S0.out).mono ?_; rintro e w' ⟨rfl, rfl⟩
  go_wp2_with fail
  refine (cD.out _ S0.out).mono ?_; rintro e w' ⟨rfl, nq, rfl⟩
  go_wp2_with fail
  go_ret
  first | exact ⟨rfl, B0.out⟩ | exact ⟨rfl, below_drewN B0.out _⟩
set_option maxHeartbeats 4000000 in
theorem nd_k4f (nm : List UInt8) (u : Value) (ws : List (List UInt8)) (zz : Int) (p : Option Addr) (c n : Nat) (w : World) (hu : StrsAt w u ws) (hws : WsWf ws) (hn : n ≤ 9223372036854775807) (hnl : nm.length ≤ 9223372036854775807) (hm : nameB nm = true) (hw : 1 ≤ ws.length ∧ ws.length ≤ 12) (h1 : namesB ws = true) (h2 : distB ws = true) (hk : n ≠ 0) : NodeR 4 nm u 0 0 (.slice p n c) w false := by
  have B0 := Lib.hid (alloc_at w (xo6 4 nm u 0 0 (.slice p n c)))
  have S0 := Lib.hid (hu.below B0.out)
  have hws' := Lib.hid hws
  have hwl := hws.1
  have cN := Lib.hid (fun w => rname_tx nm w hnl)
  rw [hm] at cN
  have q1 : decide ((ws.length : Int) < 1) = false := decide_eq_false (by omega)
  have q2 : decide ((12 : Int) < (ws.length : Int)) = false := decide_eq_false (by omega)
  have q3 : decide (ws.length < 1) = false := decide_eq_false (by omega)
  have q4 : decide (12 < ws.length) = false := decide_eq_false (by omega)
  have cW := Lib.hid (fun w (h : StrsAt w u ws) => rnames_any u ws w h hws)
  have cD := Lib.hid (fun w (h : StrsAt w u ws) => rdist_any u ws w h hws)
  rw [h1] at cW
  rw [h2] at cD
  have tk : ((n : Int) == 0) = false := by simp; omega
  obtain ⟨pu, cu, rfl, _, _⟩ := hu
  clear hws
  unfold NodeR
  generalize ws.length = nw at *
  (try clear hm)
  (try clear hw)
  (try clear hk)
  go_enter Tryz.func59, Tryz.ntmps59
  go_wp2_with fail
  refine (cN.out _).mono ?_; rintro e w' ⟨rfl, rfl⟩
  go_wp2_with fail
  refine (cW.out _ S0.out).mono ?_; rintro e w' ⟨rfl, rfl⟩
  go_wp2_with fail
  refine (cD.out _ S0.out).mono ?_; rintro e w' ⟨rfl, nq, rfl⟩
  go_wp2_with fail
  go_ret
  first | exact ⟨rfl, B0.out⟩ | exact ⟨rfl, below_drewN B0.out _⟩
theorem nb_bad (op : Int) (nm : List UInt8) (ws : List (List UInt8)) (lo hi : Int) (n : Nat) (h : ¬ (1 ≤ op ∧ op ≤ 8)) : nodeB ⟨op, nm, ws, lo, hi⟩ n = false := by unfold nodeB; simp [h]
theorem nb_no (op : Int) (nm : List UInt8) (ws : List (List UInt8)) (lo hi : Int) (n : Nat) (h : 1 ≤ op ∧ op ≤ 8) (h3 : op ≠ 3) (h4 : op ≠ 4) (h5 : op ≠ 5) :
    nodeB ⟨op, nm, ws, lo, hi⟩ n = (decide (nm = []) && decide (ws = []) && decide (lo = 0 ∧ hi = 0) && (if op = 6 then decide (n = 1) else if op = 7 ∨ op = 8 then decide (2 ≤ n) else decide (n = 0))) := by
  unfold nodeB
  simp only [h, h3, h4, h5, if_false, or_self, and_self, decide_true, Bool.true_and]
theorem nb3 (nm : List UInt8) (ws : List (List UInt8)) (lo hi : Int) (n : Nat) : nodeB ⟨3, nm, ws, lo, hi⟩ n = (nameB nm && decide (ws = []) && decide (lo = 0 ∧ hi = 0) && decide (n = 0)) := by
  unfold nodeB; simp
theorem nb4 (nm : List UInt8) (ws : List (List UInt8)) (lo hi : Int) (n : Nat) : nodeB ⟨4, nm, ws, lo, hi⟩ n = (nameB nm && (decide (1 ≤ ws.length ∧ ws.length ≤ 12) && namesB ws && distB ws) && decide (lo = 0 ∧ hi = 0) && decide (n = 0)) := by
  unfold nodeB; simp
theorem nb5 (nm : List UInt8) (ws : List (List UInt8)) (lo hi : Int) (n : Nat) : nodeB ⟨5, nm, ws, lo, hi⟩ n = (nameB nm && decide (ws = []) && (!farB lo && !farB hi && decide (lo ≤ hi)) && decide (n = 0)) := by
  unfold nodeB; simp
theorem NodeR.to {op : Int} {nm : List UInt8} {u : Value} {lo hi : Int} {a : Value} {w : World} {r r' : Bool} (h : NodeR op nm u lo hi a w r) (e : r' = r) : NodeR op nm u lo hi a w r' := e ▸ h
theorem rnode_any : NodeOf := by
  intro d u a F w hu hF hwf hn
  obtain ⟨⟨hnl, hws⟩, hop, hlo, hhi⟩ := hwf
  obtain ⟨op, nm, ws, lo, hi⟩ := d
  obtain ⟨p, c, rfl, _, _⟩ := hF
  generalize F.len = n at *
  have blo := Go.bounds_i64 hlo
  have bhi := Go.bounds_i64 hhi
  show NodeR op nm u lo hi (.slice p n c) w (nodeB ⟨op, nm, ws, lo, hi⟩ n)
  have hw0 : ws = [] ↔ ws.length = 0 := by cases ws <;> simp
  simp only at hu hws hnl
  by_cases o1 : op < 1
  · exact (nd_low op nm u ws lo hi p c n w hu hws hn o1).to (nb_bad _ _ _ _ _ _ (by omega))
  by_cases o8 : 8 < op
  · exact (nd_high op nm u ws lo hi p c n w hu hws hn o8).to (nb_bad _ _ _ _ _ _ (by omega))
  by_cases h3 : op = 3
  · subst h3
    cases hm : nameB nm with
    | false => exact (nd_n3 nm u ws lo hi p c n w hu hws hn hnl hm).to (by rw [nb3, hm]; rfl)
    | true =>
      by_cases hw : ws.length = 0
      · by_cases l1 : lo = 0
        · subst l1
          by_cases l2 : hi = 0
          · subst l2
            by_cases hk : n = 0
            · exact (nd_k3t nm u ws 0 p c n w hu hws hn hnl hm hw hk).to (by rw [nb3, hm, hw0.2 hw, hk]; rfl)
            · exact (nd_k3f nm u ws 0 p c n w hu hws hn hnl hm hw hk).to (by rw [nb3, decide_eq_false hk, Bool.and_false])
          · exact (nd_h3 nm u ws hi p c n w hu hws hn hnl hm hw l2).to (by rw [nb3, decide_eq_false (fun h : (0:Int) = 0 ∧ hi = 0 => l2 h.2), Bool.and_false]; rfl)
        · exact (nd_l3 nm u ws lo hi p c n w hu hws hn hnl hm hw l1).to (by rw [nb3, decide_eq_false (fun h : lo = 0 ∧ hi = 0 => l1 h.1), Bool.and_false]; rfl)
      · exact (nd_w3 nm u ws lo hi p c n w hu hws hn hnl hm (by omega)).to (by rw [nb3, decide_eq_false (fun h => hw (hw0.1 h)), Bool.and_false]; rfl)
  by_cases h4 : op = 4
  · subst h4
    cases hm : nameB nm with
    | false => exact (nd_n4 nm u ws lo hi p c n w hu hws hn hnl hm).to (by rw [nb4, hm]; rfl)
    | true =>
      by_cases w0 : ws.length = 0
      · exact (nd_a4 nm u ws lo hi p c n w hu hws hn hnl hm w0).to (by rw [nb4, decide_eq_false (show ¬ (1 ≤ ws.length ∧ ws.length ≤ 12) by omega)]; simp)
      by_cases w12 : 12 < ws.length
      · exact (nd_b4 nm u ws lo hi p c n w hu hws hn hnl hm w12).to (by rw [nb4, decide_eq_false (show ¬ (1 ≤ ws.length ∧ ws.length ≤ 12) by omega)]; simp)
      have hw : 1 ≤ ws.length ∧ ws.length ≤ 12 := by omega
      cases h1 : namesB ws with
      | false => exact (nd_c4 nm u ws lo hi p c n w hu hws hn hnl hm hw h1).to (by rw [nb4, h1]; simp)
      | true =>
        cases h2 : distB ws with
        | false => exact (nd_d4 nm u ws lo hi p c n w hu hws hn hnl hm hw h1 h2).to (by rw [nb4, h2]; simp)
        | true =>
          by_cases l1 : lo = 0
          · subst l1
            by_cases l2 : hi = 0
            · subst l2
              by_cases hk : n = 0
              · exact (nd_k4t nm u ws 0 p c n w hu hws hn hnl hm hw h1 h2 hk).to (by rw [nb4, hm, h1, h2, decide_eq_true hw, hk]; rfl)
              · exact (nd_k4f nm u ws 0 p c n w hu hws hn hnl hm hw h1 h2 hk).to (by rw [nb4, decide_eq_false hk, Bool.and_false])
            · exact (nd_h4 nm u ws hi p c n w hu hws hn hnl hm hw h1 h2 l2).to (by rw [nb4, decide_eq_false (fun h : (0:Int) = 0 ∧ hi = 0 => l2 h.2), Bool.and_false]; rfl)
          · exact (nd_l4 nm u ws lo hi p c n w hu hws hn hnl hm hw h1 h2 l1).to (by rw [nb4, decide_eq_false (fun h : lo = 0 ∧ hi = 0 => l1 h.1), Bool.and_false]; rfl)
  by_cases h5 : op = 5
  · subst h5
    cases hm : nameB nm with
    | false => exact (nd_n5 nm u ws lo hi p c n w hu hws hn hnl hm).to (by rw [nb5, hm]; rfl)
    | true =>
      by_cases hw : ws.length = 0
      · cases f1 : farB lo with
        | true => exact (nd_f5a nm u ws lo hi p c n w hu hws hn hnl hm blo bhi hw f1).to (by rw [nb5, f1]; simp)
        | false =>
          cases f2 : farB hi with
          | true => exact (nd_f5b nm u ws lo hi p c n w hu hws hn hnl hm blo bhi hw f1 f2).to (by rw [nb5, f2]; simp)
          | false =>
            by_cases h6 : hi < lo
            · exact (nd_f5c nm u ws lo hi p c n w hu hws hn hnl hm blo bhi hw f1 f2 h6).to (by rw [nb5, decide_eq_false (show ¬ lo ≤ hi by omega)]; simp)
            · by_cases hk : n = 0
              · exact (nd_k5t nm u ws lo hi p c n w hu hws hn hnl hm blo bhi hw f1 f2 (by omega) hk).to (by rw [nb5, hm, hw0.2 hw, f1, f2, hk, decide_eq_true (show lo ≤ hi by omega)]; rfl)
              · exact (nd_k5f nm u ws lo hi p c n w hu hws hn hnl hm blo bhi hw f1 f2 (by omega) hk).to (by rw [nb5, decide_eq_false hk, Bool.and_false])
      · exact (nd_w5 nm u ws lo hi p c n w hu hws hn hnl hm (by omega)).to (by rw [nb5, decide_eq_false (fun h => hw (hw0.1 h)), Bool.and_false]; rfl)
  have ho : 1 ≤ op ∧ op ≤ 8 := by omega
  have key := nb_no op nm ws lo hi n ho h3 h4 h5
  by_cases hm : nm = []
  · by_cases hw : ws.length = 0
    · by_cases l1 : lo = 0
      · subst l1
        by_cases l2 : hi = 0
        · subst l2
          have hc : op = 1 ∨ op = 2 ∨ op = 6 ∨ op = 7 ∨ op = 8 := by omega
          have k0 : decide ((0 : Int) = 0 ∧ (0 : Int) = 0) = true := rfl
          rw [decide_eq_true hm, decide_eq_true (hw0.2 hw), k0] at key
          rcases hc with rfl | rfl | rfl | rfl | rfl
          · by_cases hk : n = 0
            · exact (nd_op1t nm u ws 0 p c n w hu hws hn hm hw hk).to (by rw [key]; simp [hk])
            · exact (nd_op1f nm u ws 0 p c n w hu hws hn hm hw hk).to (by rw [key]; simp [hk])
          · by_cases hk : n = 0
            · exact (nd_op2t nm u ws 0 p c n w hu hws hn hm hw hk).to (by rw [key]; simp [hk])
            · exact (nd_op2f nm u ws 0 p c n w hu hws hn hm hw hk).to (by rw [key]; simp [hk])
          · by_cases hk : n = 1
            · exact (nd_op6t nm u ws 0 p c n w hu hws hn hm hw hk).to (by rw [key]; simp [hk])
            · exact (nd_op6f nm u ws 0 p c n w hu hws hn hm hw hk).to (by rw [key]; simp [hk])
          · by_cases hk : 2 ≤ n
            · exact (nd_op7t nm u ws 0 p c n w hu hws hn hm hw hk).to (by rw [key]; simp [hk])
            · exact (nd_op7f nm u ws 0 p c n w hu hws hn hm hw (by omega)).to (by rw [key]; simp; omega)
          · by_cases hk : 2 ≤ n
            · exact (nd_op8t nm u ws 0 p c n w hu hws hn hm hw hk).to (by rw [key]; simp [hk])
            · exact (nd_op8f nm u ws 0 p c n w hu hws hn hm hw (by omega)).to (by rw [key]; simp; omega)
        · exact (nd_hi op nm u ws hi p c n w hu hws hn ho h3 h4 h5 hm hw l2).to (by rw [key, decide_eq_false (fun h : (0:Int) = 0 ∧ hi = 0 => l2 h.2), Bool.and_false]; rfl)
      · exact (nd_lo op nm u ws lo hi p c n w hu hws hn ho h3 h4 h5 hm hw l1).to (by rw [key, decide_eq_false (fun h : lo = 0 ∧ hi = 0 => l1 h.1), Bool.and_false]; rfl)
    · exact (nd_words op nm u ws lo hi p c n w hu hws hn ho h3 h4 h5 hm (by omega)).to (by rw [key, decide_eq_false (fun h => hw (hw0.1 h)), Bool.and_false]; rfl)
  · exact (nd_name op nm u ws lo hi p c n w hu hws hn ho h3 h4 h5 hm).to (by rw [key, decide_eq_false hm]; rfl)
end Go.Proofs.YtjmipikahaoblaaGreatDoor.Syn
