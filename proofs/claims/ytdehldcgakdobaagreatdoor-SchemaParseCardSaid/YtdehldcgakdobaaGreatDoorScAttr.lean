/- The reference's check of an attribute. -/
import Derived.Test.YtdehldcgakdobaaGreatDoorScRef
namespace Go.Proofs.YtdehldcgakdobaaGreatDoor.Sc
open Go.RowKit Go.Lib Go.Proofs.YtdehldcgakdobaaGreatDoor.Bas Go.Proofs.YtdehldcgakdobaaGreatDoor.Cal Go.Proofs.YtdehldcgakdobaaGreatDoor.Lx
set_option linter.unusedVariables false

/-- A number; nothing of before has changed. -/
def ErrBe (r : Int) (w : World) (e : Ending) (w' : World) : Prop := e = .returned (.int .i64 r) ∧ Below w.heap.size w w'
theorem alloc_at (w : World) (o : Obj) : Below w.heap.size w (w.alloc o) := (Below.refl _ _).alloc (Nat.le_refl _) o
def AtV (a : At) (u : Value) : Value := .agg #[.string (tx a.nm), .int .i64 a.k, u, .int .i64 a.lo, .int .i64 a.hi]
set_option maxHeartbeats 2000000 in
theorem attr_w_lo (a : At) (u : Value) (w : World) (h : StrsAt w u a.ws) (hw : AtWf a) (hk : a.k = 1) (h1 : a.lo ≠ 0) : Calls Tryz.prog 43 #[AtV a u] w (ErrBe (20) w) := by
  have hal := alloc_at w (.cells #[.string (tx a.nm), .int .i64 a.k, u, .int .i64 a.lo, .int .i64 a.hi] 43)
  have B0 := Lib.hid hal
  obtain ⟨p, c, rfl, _, _⟩ := h
  unfold AtV
  have hlen := hw.1.2.1
  clear hw hal
  generalize hnn : a.ws.length = n at *
  generalize tx a.nm = nm at *
  generalize hkk : a.k = k at *
  generalize a.lo = lo at *
  generalize a.hi = hi at *
  clear hnn hkk
  subst hk
  have b1 : (lo == 0) = false := by simpa using h1
  clear h1
  go_enter Tryz.func43, Tryz.ntmps43
  go_wp2_with fail
  go_ret
  exact ⟨rfl, B0.out⟩
set_option maxHeartbeats 2000000 in
theorem attr_w_hi (a : At) (u : Value) (w : World) (h : StrsAt w u a.ws) (hw : AtWf a) (hk : a.k = 1) (h1 : a.lo = 0) (h2 : a.hi ≠ 0) : Calls Tryz.prog 43 #[AtV a u] w (ErrBe (20) w) := by
  have hal := alloc_at w (.cells #[.string (tx a.nm), .int .i64 a.k, u, .int .i64 a.lo, .int .i64 a.hi] 43)
  have B0 := Lib.hid hal
  obtain ⟨p, c, rfl, _, _⟩ := h
  unfold AtV
  have hlen := hw.1.2.1
  clear hw hal
  generalize hnn : a.ws.length = n at *
  generalize tx a.nm = nm at *
  generalize hkk : a.k = k at *
  generalize a.lo = lo at *
  generalize a.hi = hi at *
  clear hnn hkk
  subst hk
  subst h1
  have b2 : (hi == 0) = false := by simpa using h2
  clear h2
  go_enter Tryz.func43, Tryz.ntmps43
  go_wp2_with fail
  go_ret
  exact ⟨rfl, B0.out⟩
set_option maxHeartbeats 2000000 in
theorem attr_w_no (a : At) (u : Value) (w : World) (h : StrsAt w u a.ws) (hw : AtWf a) (hk : a.k = 1) (h1 : a.lo = 0) (h2 : a.hi = 0) (h3 : a.ws.length = 0) : Calls Tryz.prog 43 #[AtV a u] w (ErrBe (19) w) := by
  have hal := alloc_at w (.cells #[.string (tx a.nm), .int .i64 a.k, u, .int .i64 a.lo, .int .i64 a.hi] 43)
  have B0 := Lib.hid hal
  obtain ⟨p, c, rfl, _, _⟩ := h
  unfold AtV
  have hlen := hw.1.2.1
  clear hw hal
  generalize hnn : a.ws.length = n at *
  generalize tx a.nm = nm at *
  generalize hkk : a.k = k at *
  generalize a.lo = lo at *
  generalize a.hi = hi at *
  clear hnn hkk
  subst hk
  subst h1
  subst h2
  subst h3
  go_enter Tryz.func43, Tryz.ntmps43
  go_wp2_with fail
  go_ret
  exact ⟨rfl, B0.out⟩
set_option maxHeartbeats 2000000 in
theorem attr_w_lim (a : At) (u : Value) (w : World) (h : StrsAt w u a.ws) (hw : AtWf a) (hk : a.k = 1) (h1 : a.lo = 0) (h2 : a.hi = 0) (h3 : 12 < a.ws.length) : Calls Tryz.prog 43 #[AtV a u] w (ErrBe (4) w) := by
  have hal := alloc_at w (.cells #[.string (tx a.nm), .int .i64 a.k, u, .int .i64 a.lo, .int .i64 a.hi] 43)
  have B0 := Lib.hid hal
  obtain ⟨p, c, rfl, _, _⟩ := h
  unfold AtV
  have hlen := hw.1.2.1
  clear hw hal
  generalize hnn : a.ws.length = n at *
  generalize tx a.nm = nm at *
  generalize hkk : a.k = k at *
  generalize a.lo = lo at *
  generalize a.hi = hi at *
  clear hnn hkk
  subst hk
  subst h1
  subst h2
  have b3 : ((n : Int) == 0) = false := by simp; omega
  have b4 : decide ((0 : Int) < (n : Int)) = true := by simp; omega
  have b5 : decide (0 < n) = true := by simp; omega
  have b6 : (n == 0) = false := by simp; omega
  have c1 : decide ((12 : Int) < (n : Int)) = true := by simp; omega
  have c2 : decide (12 < n) = true := by simp; omega
  clear h3
  go_enter Tryz.func43, Tryz.ntmps43
  go_wp2_with fail
  go_ret
  exact ⟨rfl, B0.out⟩
set_option maxHeartbeats 2000000 in
theorem attr_w_nam (a : At) (u : Value) (w : World) (h : StrsAt w u a.ws) (hw : AtWf a) (hk : a.k = 1) (h1 : a.lo = 0) (h2 : a.hi = 0) (h3 : 0 < a.ws.length) (h4 : a.ws.length ≤ 12) (h5 : namesB a.ws = false) : Calls Tryz.prog 43 #[AtV a u] w (ErrBe (6) w) := by
  have hal := alloc_at w (.cells #[.string (tx a.nm), .int .i64 a.k, u, .int .i64 a.lo, .int .i64 a.hi] 43)
  have cN := Lib.hid (rnames_any u a.ws _ (h.below hal) hw.1.2)
  rw [h5] at cN
  have B0 := Lib.hid hal
  obtain ⟨p, c, rfl, _, _⟩ := h
  unfold AtV
  have hlen := hw.1.2.1
  clear hw hal
  clear h5
  generalize hnn : a.ws.length = n at *
  generalize tx a.nm = nm at *
  generalize hkk : a.k = k at *
  generalize a.lo = lo at *
  generalize a.hi = hi at *
  clear hnn hkk
  subst hk
  subst h1
  subst h2
  have b3 : ((n : Int) == 0) = false := by simp; omega
  have b4 : decide ((0 : Int) < (n : Int)) = true := by simp; omega
  have b5 : decide (0 < n) = true := by simp; omega
  have b6 : (n == 0) = false := by simp; omega
  have c1 : decide ((12 : Int) < (n : Int)) = false := by simp; omega
  have c2 : decide (12 < n) = false := by simp; omega
  clear h3 h4
  go_enter Tryz.func43, Tryz.ntmps43
  go_wp2_with fail
  refine cN.out.mono ?_; rintro e w' ⟨rfl, rfl⟩
  go_wp2_with fail
  go_ret
  exact ⟨rfl, B0.out⟩
set_option maxHeartbeats 2000000 in
theorem attr_w_dup (a : At) (u : Value) (w : World) (h : StrsAt w u a.ws) (hw : AtWf a) (hk : a.k = 1) (h1 : a.lo = 0) (h2 : a.hi = 0) (h3 : 0 < a.ws.length) (h4 : a.ws.length ≤ 12) (h5 : namesB a.ws = true) (h6 : distB a.ws = false) : Calls Tryz.prog 43 #[AtV a u] w (ErrBe (8) w) := by
  have hal := alloc_at w (.cells #[.string (tx a.nm), .int .i64 a.k, u, .int .i64 a.lo, .int .i64 a.hi] 43)
  have cN := Lib.hid (rnames_any u a.ws _ (h.below hal) hw.1.2)
  rw [h5] at cN
  have cD := Lib.hid (rdist_any u a.ws _ (h.below hal) hw.1.2)
  rw [h6] at cD
  have B0 := Lib.hid hal
  obtain ⟨p, c, rfl, _, _⟩ := h
  unfold AtV
  have hlen := hw.1.2.1
  clear hw hal
  clear h5
  clear h6
  generalize hnn : a.ws.length = n at *
  generalize tx a.nm = nm at *
  generalize hkk : a.k = k at *
  generalize a.lo = lo at *
  generalize a.hi = hi at *
  clear hnn hkk
  subst hk
  subst h1
  subst h2
  have b3 : ((n : Int) == 0) = false := by simp; omega
  have b4 : decide ((0 : Int) < (n : Int)) = true := by simp; omega
  have b5 : decide (0 < n) = true := by simp; omega
  have b6 : (n == 0) = false := by simp; omega
  have c1 : decide ((12 : Int) < (n : Int)) = false := by simp; omega
  have c2 : decide (12 < n) = false := by simp; omega
  clear h3 h4
  go_enter Tryz.func43, Tryz.ntmps43
  go_wp2_with fail
  refine cN.out.mono ?_; rintro e w' ⟨rfl, rfl⟩
  go_wp2_with fail
  refine cD.out.mono ?_; rintro e w' ⟨rfl, ⟨nd, rfl⟩⟩
  go_wp2_with fail
  go_ret
  exact ⟨rfl, below_drewN B0.out nd⟩
set_option maxHeartbeats 2000000 in
theorem attr_w_ok (a : At) (u : Value) (w : World) (h : StrsAt w u a.ws) (hw : AtWf a) (hk : a.k = 1) (h1 : a.lo = 0) (h2 : a.hi = 0) (h3 : 0 < a.ws.length) (h4 : a.ws.length ≤ 12) (h5 : namesB a.ws = true) (h6 : distB a.ws = true) : Calls Tryz.prog 43 #[AtV a u] w (ErrBe (0) w) := by
  have hal := alloc_at w (.cells #[.string (tx a.nm), .int .i64 a.k, u, .int .i64 a.lo, .int .i64 a.hi] 43)
  have cN := Lib.hid (rnames_any u a.ws _ (h.below hal) hw.1.2)
  rw [h5] at cN
  have cD := Lib.hid (rdist_any u a.ws _ (h.below hal) hw.1.2)
  rw [h6] at cD
  have B0 := Lib.hid hal
  obtain ⟨p, c, rfl, _, _⟩ := h
  unfold AtV
  have hlen := hw.1.2.1
  clear hw hal
  clear h5
  clear h6
  generalize hnn : a.ws.length = n at *
  generalize tx a.nm = nm at *
  generalize hkk : a.k = k at *
  generalize a.lo = lo at *
  generalize a.hi = hi at *
  clear hnn hkk
  subst hk
  subst h1
  subst h2
  have b3 : ((n : Int) == 0) = false := by simp; omega
  have b4 : decide ((0 : Int) < (n : Int)) = true := by simp; omega
  have b5 : decide (0 < n) = true := by simp; omega
  have b6 : (n == 0) = false := by simp; omega
  have c1 : decide ((12 : Int) < (n : Int)) = false := by simp; omega
  have c2 : decide (12 < n) = false := by simp; omega
  clear h3 h4
  go_enter Tryz.func43, Tryz.ntmps43
  go_wp2_with fail
  refine cN.out.mono ?_; rintro e w' ⟨rfl, rfl⟩
  go_wp2_with fail
  refine cD.out.mono ?_; rintro e w' ⟨rfl, ⟨nd, rfl⟩⟩
  go_wp2_with fail
  go_ret
  exact ⟨rfl, below_drewN B0.out nd⟩
set_option maxHeartbeats 2000000 in
theorem attr_n_ws (a : At) (u : Value) (w : World) (h : StrsAt w u a.ws) (hw : AtWf a) (hk : a.k = 2) (h3 : 0 < a.ws.length) : Calls Tryz.prog 43 #[AtV a u] w (ErrBe (20) w) := by
  have hal := alloc_at w (.cells #[.string (tx a.nm), .int .i64 a.k, u, .int .i64 a.lo, .int .i64 a.hi] 43)
  have B0 := Lib.hid hal
  obtain ⟨p, c, rfl, _, _⟩ := h
  unfold AtV
  have hlen := hw.1.2.1
  clear hw hal
  generalize hnn : a.ws.length = n at *
  generalize tx a.nm = nm at *
  generalize hkk : a.k = k at *
  generalize a.lo = lo at *
  generalize a.hi = hi at *
  clear hnn hkk
  subst hk
  have b3 : ((n : Int) == 0) = false := by simp; omega
  have b4 : decide ((0 : Int) < (n : Int)) = true := by simp; omega
  have b5 : decide (0 < n) = true := by simp; omega
  have b6 : (n == 0) = false := by simp; omega
  clear h3
  go_enter Tryz.func43, Tryz.ntmps43
  go_wp2_with fail
  go_ret
  exact ⟨rfl, B0.out⟩
set_option maxHeartbeats 2000000 in
theorem attr_n_or (a : At) (u : Value) (w : World) (h : StrsAt w u a.ws) (hw : AtWf a) (hk : a.k = 2) (h3 : a.ws.length = 0) (h4 : a.hi < a.lo) : Calls Tryz.prog 43 #[AtV a u] w (ErrBe (1) w) := by
  have hal := alloc_at w (.cells #[.string (tx a.nm), .int .i64 a.k, u, .int .i64 a.lo, .int .i64 a.hi] 43)
  have B0 := Lib.hid hal
  obtain ⟨p, c, rfl, _, _⟩ := h
  unfold AtV
  have hlen := hw.1.2.1
  clear hw hal
  generalize hnn : a.ws.length = n at *
  generalize tx a.nm = nm at *
  generalize hkk : a.k = k at *
  generalize a.lo = lo at *
  generalize a.hi = hi at *
  clear hnn hkk
  subst hk
  subst h3
  have d1 : decide (hi < lo) = true := by simpa using h4
  clear h4
  go_enter Tryz.func43, Tryz.ntmps43
  go_wp2_with fail
  go_ret
  exact ⟨rfl, B0.out⟩
set_option maxHeartbeats 2000000 in
theorem attr_n_lo (a : At) (u : Value) (w : World) (h : StrsAt w u a.ws) (hw : AtWf a) (hk : a.k = 2) (h3 : a.ws.length = 0) (h4 : a.lo ≤ a.hi) (h5 : farB a.lo = true) : Calls Tryz.prog 43 #[AtV a u] w (ErrBe (1) w) := by
  have hal := alloc_at w (.cells #[.string (tx a.nm), .int .i64 a.k, u, .int .i64 a.lo, .int .i64 a.hi] 43)
  have cF := Lib.hid (fun w => rfar_any a.lo w (Go.bounds_i64 hw.2.2.1).1 (Go.bounds_i64 hw.2.2.1).2)
  rw [h5] at cF
  have B0 := Lib.hid hal
  obtain ⟨p, c, rfl, _, _⟩ := h
  unfold AtV
  have hlen := hw.1.2.1
  clear hw hal
  clear h5
  generalize hnn : a.ws.length = n at *
  generalize tx a.nm = nm at *
  generalize hkk : a.k = k at *
  generalize a.lo = lo at *
  generalize a.hi = hi at *
  clear hnn hkk
  subst hk
  subst h3
  have d1 : decide (hi < lo) = false := by simpa using h4
  clear h4
  go_enter Tryz.func43, Tryz.ntmps43
  go_wp2_with fail
  refine (cF.out _).mono ?_; rintro e w' ⟨rfl, rfl⟩
  go_wp2_with fail
  go_ret
  exact ⟨rfl, B0.out⟩
set_option maxHeartbeats 2000000 in
theorem attr_n_hi (a : At) (u : Value) (w : World) (h : StrsAt w u a.ws) (hw : AtWf a) (hk : a.k = 2) (h3 : a.ws.length = 0) (h4 : a.lo ≤ a.hi) (h5 : farB a.lo = false) (h6 : farB a.hi = true) : Calls Tryz.prog 43 #[AtV a u] w (ErrBe (1) w) := by
  have hal := alloc_at w (.cells #[.string (tx a.nm), .int .i64 a.k, u, .int .i64 a.lo, .int .i64 a.hi] 43)
  have cF := Lib.hid (fun w => rfar_any a.lo w (Go.bounds_i64 hw.2.2.1).1 (Go.bounds_i64 hw.2.2.1).2)
  rw [h5] at cF
  have cG := Lib.hid (fun w => rfar_any a.hi w (Go.bounds_i64 hw.2.2.2).1 (Go.bounds_i64 hw.2.2.2).2)
  rw [h6] at cG
  have B0 := Lib.hid hal
  obtain ⟨p, c, rfl, _, _⟩ := h
  unfold AtV
  have hlen := hw.1.2.1
  clear hw hal
  clear h5
  clear h6
  generalize hnn : a.ws.length = n at *
  generalize tx a.nm = nm at *
  generalize hkk : a.k = k at *
  generalize a.lo = lo at *
  generalize a.hi = hi at *
  clear hnn hkk
  subst hk
  subst h3
  have d1 : decide (hi < lo) = false := by simpa using h4
  clear h4
  go_enter Tryz.func43, Tryz.ntmps43
  go_wp2_with fail
  refine (cF.out _).mono ?_; rintro e w' ⟨rfl, rfl⟩
  go_wp2_with fail
  refine (cG.out _).mono ?_; rintro e w' ⟨rfl, rfl⟩
  go_wp2_with fail
  go_ret
  exact ⟨rfl, B0.out⟩
set_option maxHeartbeats 2000000 in
theorem attr_n_ok (a : At) (u : Value) (w : World) (h : StrsAt w u a.ws) (hw : AtWf a) (hk : a.k = 2) (h3 : a.ws.length = 0) (h4 : a.lo ≤ a.hi) (h5 : farB a.lo = false) (h6 : farB a.hi = false) : Calls Tryz.prog 43 #[AtV a u] w (ErrBe (0) w) := by
  have hal := alloc_at w (.cells #[.string (tx a.nm), .int .i64 a.k, u, .int .i64 a.lo, .int .i64 a.hi] 43)
  have cF := Lib.hid (fun w => rfar_any a.lo w (Go.bounds_i64 hw.2.2.1).1 (Go.bounds_i64 hw.2.2.1).2)
  rw [h5] at cF
  have cG := Lib.hid (fun w => rfar_any a.hi w (Go.bounds_i64 hw.2.2.2).1 (Go.bounds_i64 hw.2.2.2).2)
  rw [h6] at cG
  have B0 := Lib.hid hal
  obtain ⟨p, c, rfl, _, _⟩ := h
  unfold AtV
  have hlen := hw.1.2.1
  clear hw hal
  clear h5
  clear h6
  generalize hnn : a.ws.length = n at *
  generalize tx a.nm = nm at *
  generalize hkk : a.k = k at *
  generalize a.lo = lo at *
  generalize a.hi = hi at *
  clear hnn hkk
  subst hk
  subst h3
  have d1 : decide (hi < lo) = false := by simpa using h4
  clear h4
  go_enter Tryz.func43, Tryz.ntmps43
  go_wp2_with fail
  refine (cF.out _).mono ?_; rintro e w' ⟨rfl, rfl⟩
  go_wp2_with fail
  refine (cG.out _).mono ?_; rintro e w' ⟨rfl, rfl⟩
  go_wp2_with fail
  go_ret
  exact ⟨rfl, B0.out⟩
set_option maxHeartbeats 2000000 in
theorem attr_t_ws (a : At) (u : Value) (w : World) (h : StrsAt w u a.ws) (hw : AtWf a) (hk : a.k = 3) (h3 : 0 < a.ws.length) : Calls Tryz.prog 43 #[AtV a u] w (ErrBe (20) w) := by
  have hal := alloc_at w (.cells #[.string (tx a.nm), .int .i64 a.k, u, .int .i64 a.lo, .int .i64 a.hi] 43)
  have B0 := Lib.hid hal
  obtain ⟨p, c, rfl, _, _⟩ := h
  unfold AtV
  have hlen := hw.1.2.1
  clear hw hal
  generalize hnn : a.ws.length = n at *
  generalize tx a.nm = nm at *
  generalize hkk : a.k = k at *
  generalize a.lo = lo at *
  generalize a.hi = hi at *
  clear hnn hkk
  subst hk
  have b3 : ((n : Int) == 0) = false := by simp; omega
  have b4 : decide ((0 : Int) < (n : Int)) = true := by simp; omega
  have b5 : decide (0 < n) = true := by simp; omega
  have b6 : (n == 0) = false := by simp; omega
  clear h3
  go_enter Tryz.func43, Tryz.ntmps43
  go_wp2_with fail
  go_ret
  exact ⟨rfl, B0.out⟩
set_option maxHeartbeats 2000000 in
theorem attr_t_lo (a : At) (u : Value) (w : World) (h : StrsAt w u a.ws) (hw : AtWf a) (hk : a.k = 3) (h3 : a.ws.length = 0) (h1 : a.lo ≠ 0) : Calls Tryz.prog 43 #[AtV a u] w (ErrBe (20) w) := by
  have hal := alloc_at w (.cells #[.string (tx a.nm), .int .i64 a.k, u, .int .i64 a.lo, .int .i64 a.hi] 43)
  have B0 := Lib.hid hal
  obtain ⟨p, c, rfl, _, _⟩ := h
  unfold AtV
  have hlen := hw.1.2.1
  clear hw hal
  generalize hnn : a.ws.length = n at *
  generalize tx a.nm = nm at *
  generalize hkk : a.k = k at *
  generalize a.lo = lo at *
  generalize a.hi = hi at *
  clear hnn hkk
  subst hk
  subst h3
  have b1 : (lo == 0) = false := by simpa using h1
  clear h1
  go_enter Tryz.func43, Tryz.ntmps43
  go_wp2_with fail
  go_ret
  exact ⟨rfl, B0.out⟩
set_option maxHeartbeats 2000000 in
theorem attr_t_hi (a : At) (u : Value) (w : World) (h : StrsAt w u a.ws) (hw : AtWf a) (hk : a.k = 3) (h3 : a.ws.length = 0) (h1 : a.lo = 0) (h2 : a.hi ≠ 0) : Calls Tryz.prog 43 #[AtV a u] w (ErrBe (20) w) := by
  have hal := alloc_at w (.cells #[.string (tx a.nm), .int .i64 a.k, u, .int .i64 a.lo, .int .i64 a.hi] 43)
  have B0 := Lib.hid hal
  obtain ⟨p, c, rfl, _, _⟩ := h
  unfold AtV
  have hlen := hw.1.2.1
  clear hw hal
  generalize hnn : a.ws.length = n at *
  generalize tx a.nm = nm at *
  generalize hkk : a.k = k at *
  generalize a.lo = lo at *
  generalize a.hi = hi at *
  clear hnn hkk
  subst hk
  subst h3
  subst h1
  have b2 : (hi == 0) = false := by simpa using h2
  clear h2
  go_enter Tryz.func43, Tryz.ntmps43
  go_wp2_with fail
  go_ret
  exact ⟨rfl, B0.out⟩
set_option maxHeartbeats 2000000 in
theorem attr_t_ok (a : At) (u : Value) (w : World) (h : StrsAt w u a.ws) (hw : AtWf a) (hk : a.k = 3) (h3 : a.ws.length = 0) (h1 : a.lo = 0) (h2 : a.hi = 0) : Calls Tryz.prog 43 #[AtV a u] w (ErrBe (0) w) := by
  have hal := alloc_at w (.cells #[.string (tx a.nm), .int .i64 a.k, u, .int .i64 a.lo, .int .i64 a.hi] 43)
  have B0 := Lib.hid hal
  obtain ⟨p, c, rfl, _, _⟩ := h
  unfold AtV
  have hlen := hw.1.2.1
  clear hw hal
  generalize hnn : a.ws.length = n at *
  generalize tx a.nm = nm at *
  generalize hkk : a.k = k at *
  generalize a.lo = lo at *
  generalize a.hi = hi at *
  clear hnn hkk
  subst hk
  subst h3
  subst h1
  subst h2
  go_enter Tryz.func43, Tryz.ntmps43
  go_wp2_with fail
  go_ret
  exact ⟨rfl, B0.out⟩
set_option maxHeartbeats 2000000 in
theorem attr_other (a : At) (u : Value) (w : World) (h : StrsAt w u a.ws) (hw : AtWf a) (k1 : a.k ≠ 1) (k2 : a.k ≠ 2) (k3 : a.k ≠ 3) : Calls Tryz.prog 43 #[AtV a u] w (ErrBe (11) w) := by
  have hal := alloc_at w (.cells #[.string (tx a.nm), .int .i64 a.k, u, .int .i64 a.lo, .int .i64 a.hi] 43)
  have B0 := Lib.hid hal
  obtain ⟨p, c, rfl, _, _⟩ := h
  unfold AtV
  have hlen := hw.1.2.1
  clear hw hal
  generalize hnn : a.ws.length = n at *
  generalize tx a.nm = nm at *
  generalize hkk : a.k = k at *
  generalize a.lo = lo at *
  generalize a.hi = hi at *
  clear hnn hkk
  have e1 : (k == 1) = false := by simpa using k1
  have e2 : (k == 2) = false := by simpa using k2
  have e3 : (k == 3) = false := by simpa using k3
  clear k1 k2 k3
  go_enter Tryz.func43, Tryz.ntmps43
  go_wp2_with fail
  go_ret
  exact ⟨rfl, B0.out⟩
/-- The reference's attribute. -/
theorem rattr_any (a : At) (u : Value) (w : World) (h : StrsAt w u a.ws) (hw : AtWf a) : Calls Tryz.prog 43 #[AtV a u] w (ErrBe (attE a) w) := by
  unfold attE
  by_cases k1 : a.k = 1
  · rw [if_pos k1]
    by_cases h1 : a.lo ≠ 0
    · rw [if_pos (.inl h1)]; exact attr_w_lo a u w h hw k1 h1
    · by_cases h2 : a.hi ≠ 0
      · rw [if_pos (.inr h2)]; exact attr_w_hi a u w h hw k1 (by simpa using h1) h2
      · rw [if_neg (by rintro (e | e); exact h1 e; exact h2 e)]
        have h1' : a.lo = 0 := by simpa using h1
        have h2' : a.hi = 0 := by simpa using h2
        by_cases h3 : a.ws.length = 0
        · rw [if_pos h3]; exact attr_w_no a u w h hw k1 h1' h2' h3
        · rw [if_neg h3]
          by_cases h4 : 12 < a.ws.length
          · rw [if_pos h4]; exact attr_w_lim a u w h hw k1 h1' h2' h4
          · rw [if_neg h4]
            cases h5 : namesB a.ws with
            | false => rw [if_pos rfl]; exact attr_w_nam a u w h hw k1 h1' h2' (by omega) (by omega) h5
            | true =>
              rw [if_neg (by simp)]
              cases h6 : distB a.ws with
              | false => rw [if_pos rfl]; exact attr_w_dup a u w h hw k1 h1' h2' (by omega) (by omega) h5 h6
              | true => rw [if_neg (by simp)]; exact attr_w_ok a u w h hw k1 h1' h2' (by omega) (by omega) h5 h6
  · rw [if_neg k1]
    by_cases k2 : a.k = 2
    · rw [if_pos k2]
      by_cases h3 : 0 < a.ws.length
      · rw [if_pos h3]; exact attr_n_ws a u w h hw k2 h3
      · rw [if_neg h3]
        have h3' : a.ws.length = 0 := by omega
        by_cases h4 : a.hi < a.lo
        · rw [if_pos (.inl h4)]; exact attr_n_or a u w h hw k2 h3' h4
        · cases h5 : farB a.lo with
          | true => rw [if_pos (.inr (.inl rfl))]; exact attr_n_lo a u w h hw k2 h3' (by omega) h5
          | false =>
            cases h6 : farB a.hi with
            | true => rw [if_pos (.inr (.inr rfl))]; exact attr_n_hi a u w h hw k2 h3' (by omega) h5 h6
            | false => rw [if_neg (by rintro (e | e | e); exact h4 e; cases e; cases e)]; exact attr_n_ok a u w h hw k2 h3' (by omega) h5 h6
    · rw [if_neg k2]
      by_cases k3 : a.k = 3
      · rw [if_pos k3]
        by_cases h3 : 0 < a.ws.length
        · rw [if_pos (.inl h3)]; exact attr_t_ws a u w h hw k3 h3
        · have h3' : a.ws.length = 0 := by omega
          by_cases h1 : a.lo ≠ 0
          · rw [if_pos (.inr (.inl h1))]; exact attr_t_lo a u w h hw k3 h3' h1
          · have h1' : a.lo = 0 := by simpa using h1
            by_cases h2 : a.hi ≠ 0
            · rw [if_pos (.inr (.inr h2))]; exact attr_t_hi a u w h hw k3 h3' h1' h2
            · rw [if_neg (by rintro (e | e | e); exact h3 e; exact h1 e; exact h2 e)]; exact attr_t_ok a u w h hw k3 h3' h1' (by simpa using h2)
      · rw [if_neg k3]; exact attr_other a u w h hw k1 k2 k3
end Go.Proofs.YtdehldcgakdobaaGreatDoor.Sc
