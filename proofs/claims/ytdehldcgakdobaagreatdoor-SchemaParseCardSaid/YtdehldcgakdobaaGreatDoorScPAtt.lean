/- The program's checks of what belongs to an attribute's kind. -/
import Derived.Test.YtdehldcgakdobaaGreatDoorScSch
import Derived.Test.YtdehldcgakdobaaGreatDoorStock
namespace Go.Proofs.YtdehldcgakdobaaGreatDoor.Sc
open Go.RowKit Go.Lib Go.Proofs.YtdehldcgakdobaaGreatDoor.Bas Go.Proofs.YtdehldcgakdobaaGreatDoor.Cal Go.Proofs.YtdehldcgakdobaaGreatDoor.Lx
set_option linter.unusedVariables false

theorem pname_tx (x : List UInt8) (w : World) (h : x.length ≤ 9223372036854775807) : Calls Tryz.prog 46 #[.string (tx x)] w (BoolSame (nameB x) w) := by
  have := name_any (tx x) w (by rw [tx_size]; exact h)
  rw [bl_tx] at this
  exact this
theorem mem_tx (x : List UInt8) (l : List (List UInt8)) : tx x ∈ l.map tx ↔ x ∈ l := by
  rw [List.mem_map]
  constructor
  · rintro ⟨y, hy, e⟩; rw [← tx_inj e]; exact hy
  · intro h; exact ⟨x, h, rfl⟩
theorem getD_tx (l : List (List UInt8)) (j : Nat) (h : j < l.length) : (l.map tx).getD j ByteArray.empty = tx (l.getD j []) := by
  simp [List.getD_eq_getElem?_getD, h]
/-- slices.Contains over the first i of these strings. -/
theorem pcont_any (p : Option Addr) (c : Nat) (l : List (List UInt8)) (i : Nat) (x : List UInt8) (w : World) (hi : i ≤ l.length) (hl : l.length ≤ 9223372036854775807)
    (hp : 0 < l.length → ∃ b off, p = some ⟨b, off, none⟩ ∧ ∀ j, j < l.length → w.cell? ⟨b, off + j, none⟩ = some (.string (tx (l.getD j [])))) :
    Calls Tryz.prog 67 #[.slice p i c, .string (tx x)] w (BoolSame (decide (x ∈ l.take i)) w) := by
  by_cases h0 : i = 0
  · subst h0
    rw [List.take_zero, show decide (x ∈ ([] : List (List UInt8))) = false from decide_eq_false (by simp)]
    exact (Tryz.slices_Contains_string_empty p c (tx x) w).mono fun e w' ⟨h1, h2⟩ => ⟨h1, h2.symm⟩
  · obtain ⟨b, off, rfl, hc⟩ := hp (by omega)
    have hz : (l.map tx).length = l.length := by simp
    refine (Tryz.slices_Contains_string b off i c (l.map tx) (tx x) w (by rw [hz]; exact hi) (by omega) (fun j hj => by
      have hj' : j < l.length := by rw [← hz]; exact hj
      rw [getD_tx l j hj']; exact hc j hj')).mono ?_
    rintro e w' ⟨rfl, rfl⟩
    refine ⟨?_, rfl⟩
    have : Lib.containsS ((l.map tx).take i) (tx x) = decide (x ∈ l.take i) := by
      rw [← List.map_take]
      cases h : Lib.containsS ((l.take i).map tx) (tx x) with
      | true => rw [decide_eq_true ((mem_tx _ _).1 ((Lib.containsS_iff _ _).1 h))]
      | false =>
        rw [decide_eq_false]
        intro hh
        rw [(Lib.containsS_iff _ _).2 ((mem_tx _ _).2 hh)] at h; cases h
    rw [this]
set_option maxHeartbeats 2000000 in
theorem p_n_ws (a : At) (u : Value) (w : World) (h : StrsAt w u a.ws) (hw : AtWf a) (hk : a.k = 2) (h3 : 0 < a.ws.length) : Calls Tryz.prog 49 #[AtV a u] w (ErrBe (20) w) := by
  have hal := alloc_at w (.cells #[.string (tx a.nm), .int .i64 a.k, u, .int .i64 a.lo, .int .i64 a.hi] 43)
  have B0 := Lib.hid hal
  obtain ⟨p, c, rfl, _, _⟩ := h
  unfold AtV
  have hlen := hw.1.2.1
  clear hw hal
  generalize hnn : a.ws.length = n at *
  generalize tx a.nm = nm at *
  generalize hkk : a.k = k at *
  generalize a.lo = lo at *
  generalize a.hi = hi at *
  clear hnn hkk
  subst hk
  have b3 : ((n : Int) == 0) = false := by simp; omega
  have b4 : decide ((0 : Int) < (n : Int)) = true := by simp; omega
  have b5 : decide (0 < n) = true := by simp; omega
  have b6 : (n == 0) = false := by simp; omega
  clear h3
  go_enter Tryz.func49, Tryz.ntmps49
  go_wp2_with fail
  go_ret
  exact ⟨rfl, B0.out⟩
set_option maxHeartbeats 2000000 in
theorem p_n_lo (a : At) (u : Value) (w : World) (h : StrsAt w u a.ws) (hw : AtWf a) (hk : a.k = 2) (h3 : a.ws.length = 0) (h4 : a.lo < -1000000000) : Calls Tryz.prog 49 #[AtV a u] w (ErrBe (1) w) := by
  have hal := alloc_at w (.cells #[.string (tx a.nm), .int .i64 a.k, u, .int .i64 a.lo, .int .i64 a.hi] 43)
  have B0 := Lib.hid hal
  obtain ⟨p, c, rfl, _, _⟩ := h
  unfold AtV
  have hlen := hw.1.2.1
  clear hw hal
  generalize hnn : a.ws.length = n at *
  generalize tx a.nm = nm at *
  generalize hkk : a.k = k at *
  generalize a.lo = lo at *
  generalize a.hi = hi at *
  clear hnn hkk
  subst hk
  subst h3
  have d1 : decide (lo < -1000000000) = true := by simpa using h4
  clear h4
  go_enter Tryz.func49, Tryz.ntmps49
  go_wp2_with fail
  go_ret
  exact ⟨rfl, B0.out⟩
set_option maxHeartbeats 2000000 in
theorem p_n_or (a : At) (u : Value) (w : World) (h : StrsAt w u a.ws) (hw : AtWf a) (hk : a.k = 2) (h3 : a.ws.length = 0) (h4 : -1000000000 ≤ a.lo) (h5 : a.hi < a.lo) : Calls Tryz.prog 49 #[AtV a u] w (ErrBe (1) w) := by
  have hal := alloc_at w (.cells #[.string (tx a.nm), .int .i64 a.k, u, .int .i64 a.lo, .int .i64 a.hi] 43)
  have B0 := Lib.hid hal
  obtain ⟨p, c, rfl, _, _⟩ := h
  unfold AtV
  have hlen := hw.1.2.1
  clear hw hal
  generalize hnn : a.ws.length = n at *
  generalize tx a.nm = nm at *
  generalize hkk : a.k = k at *
  generalize a.lo = lo at *
  generalize a.hi = hi at *
  clear hnn hkk
  subst hk
  subst h3
  have d1 : decide (lo < -1000000000) = false := by simpa using h4
  have d2 : decide (hi < lo) = true := by simpa using h5
  clear h4 h5
  go_enter Tryz.func49, Tryz.ntmps49
  go_wp2_with fail
  go_ret
  exact ⟨rfl, B0.out⟩
set_option maxHeartbeats 2000000 in
theorem p_n_hi (a : At) (u : Value) (w : World) (h : StrsAt w u a.ws) (hw : AtWf a) (hk : a.k = 2) (h3 : a.ws.length = 0) (h4 : -1000000000 ≤ a.lo) (h5 : a.lo ≤ a.hi) (h6 : 1000000000 < a.hi) : Calls Tryz.prog 49 #[AtV a u] w (ErrBe (1) w) := by
  have hal := alloc_at w (.cells #[.string (tx a.nm), .int .i64 a.k, u, .int .i64 a.lo, .int .i64 a.hi] 43)
  have B0 := Lib.hid hal
  obtain ⟨p, c, rfl, _, _⟩ := h
  unfold AtV
  have hlen := hw.1.2.1
  clear hw hal
  generalize hnn : a.ws.length = n at *
  generalize tx a.nm = nm at *
  generalize hkk : a.k = k at *
  generalize a.lo = lo at *
  generalize a.hi = hi at *
  clear hnn hkk
  subst hk
  subst h3
  have d1 : decide (lo < -1000000000) = false := by simpa using h4
  have d2 : decide (hi < lo) = false := by simpa using h5
  have d3 : decide (1000000000 < hi) = true := by simpa using h6
  clear h4 h5 h6
  go_enter Tryz.func49, Tryz.ntmps49
  go_wp2_with fail
  go_ret
  exact ⟨rfl, B0.out⟩
set_option maxHeartbeats 2000000 in
theorem p_n_ok (a : At) (u : Value) (w : World) (h : StrsAt w u a.ws) (hw : AtWf a) (hk : a.k = 2) (h3 : a.ws.length = 0) (h4 : -1000000000 ≤ a.lo) (h5 : a.lo ≤ a.hi) (h6 : a.hi ≤ 1000000000) : Calls Tryz.prog 49 #[AtV a u] w (ErrBe (0) w) := by
  have hal := alloc_at w (.cells #[.string (tx a.nm), .int .i64 a.k, u, .int .i64 a.lo, .int .i64 a.hi] 43)
  have B0 := Lib.hid hal
  obtain ⟨p, c, rfl, _, _⟩ := h
  unfold AtV
  have hlen := hw.1.2.1
  clear hw hal
  generalize hnn : a.ws.length = n at *
  generalize tx a.nm = nm at *
  generalize hkk : a.k = k at *
  generalize a.lo = lo at *
  generalize a.hi = hi at *
  clear hnn hkk
  subst hk
  subst h3
  have d1 : decide (lo < -1000000000) = false := by simpa using h4
  have d2 : decide (hi < lo) = false := by simpa using h5
  have d3 : decide (1000000000 < hi) = false := by simpa using h6
  clear h4 h5 h6
  go_enter Tryz.func49, Tryz.ntmps49
  go_wp2_with fail
  go_ret
  exact ⟨rfl, B0.out⟩
set_option maxHeartbeats 2000000 in
theorem p_t_ws (a : At) (u : Value) (w : World) (h : StrsAt w u a.ws) (hw : AtWf a) (hk : a.k = 3) (h3 : 0 < a.ws.length) : Calls Tryz.prog 50 #[AtV a u] w (ErrBe (20) w) := by
  have hal := alloc_at w (.cells #[.string (tx a.nm), .int .i64 a.k, u, .int .i64 a.lo, .int .i64 a.hi] 43)
  have B0 := Lib.hid hal
  obtain ⟨p, c, rfl, _, _⟩ := h
  unfold AtV
  have hlen := hw.1.2.1
  clear hw hal
  generalize hnn : a.ws.length = n at *
  generalize tx a.nm = nm at *
  generalize hkk : a.k = k at *
  generalize a.lo = lo at *
  generalize a.hi = hi at *
  clear hnn hkk
  subst hk
  have b3 : ((n : Int) == 0) = false := by simp; omega
  have b4 : decide ((0 : Int) < (n : Int)) = true := by simp; omega
  have b5 : decide (0 < n) = true := by simp; omega
  have b6 : (n == 0) = false := by simp; omega
  go_enter Tryz.func50, Tryz.ntmps50
  go_wp2_with fail
  all_goals first | (exfalso; omega) | (go_ret; exact ⟨rfl, B0.out⟩)
set_option maxHeartbeats 2000000 in
theorem p_t_lo (a : At) (u : Value) (w : World) (h : StrsAt w u a.ws) (hw : AtWf a) (hk : a.k = 3) (h3 : a.ws.length = 0) (h1 : a.lo ≠ 0) : Calls Tryz.prog 50 #[AtV a u] w (ErrBe (20) w) := by
  have hal := alloc_at w (.cells #[.string (tx a.nm), .int .i64 a.k, u, .int .i64 a.lo, .int .i64 a.hi] 43)
  have B0 := Lib.hid hal
  obtain ⟨p, c, rfl, _, _⟩ := h
  unfold AtV
  have hlen := hw.1.2.1
  clear hw hal
  generalize hnn : a.ws.length = n at *
  generalize tx a.nm = nm at *
  generalize hkk : a.k = k at *
  generalize a.lo = lo at *
  generalize a.hi = hi at *
  clear hnn hkk
  subst hk
  subst h3
  have b1 : (lo == 0) = false := by simpa using h1
  clear h1
  go_enter Tryz.func50, Tryz.ntmps50
  go_wp2_with fail
  go_ret
  exact ⟨rfl, B0.out⟩
set_option maxHeartbeats 2000000 in
theorem p_t_hi (a : At) (u : Value) (w : World) (h : StrsAt w u a.ws) (hw : AtWf a) (hk : a.k = 3) (h3 : a.ws.length = 0) (h1 : a.lo = 0) (h2 : a.hi ≠ 0) : Calls Tryz.prog 50 #[AtV a u] w (ErrBe (20) w) := by
  have hal := alloc_at w (.cells #[.string (tx a.nm), .int .i64 a.k, u, .int .i64 a.lo, .int .i64 a.hi] 43)
  have B0 := Lib.hid hal
  obtain ⟨p, c, rfl, _, _⟩ := h
  unfold AtV
  have hlen := hw.1.2.1
  clear hw hal
  generalize hnn : a.ws.length = n at *
  generalize tx a.nm = nm at *
  generalize hkk : a.k = k at *
  generalize a.lo = lo at *
  generalize a.hi = hi at *
  clear hnn hkk
  subst hk
  subst h3
  subst h1
  have b2 : (hi == 0) = false := by simpa using h2
  clear h2
  go_enter Tryz.func50, Tryz.ntmps50
  go_wp2_with fail
  go_ret
  exact ⟨rfl, B0.out⟩
set_option maxHeartbeats 2000000 in
theorem p_t_ok (a : At) (u : Value) (w : World) (h : StrsAt w u a.ws) (hw : AtWf a) (hk : a.k = 3) (h3 : a.ws.length = 0) (h1 : a.lo = 0) (h2 : a.hi = 0) : Calls Tryz.prog 50 #[AtV a u] w (ErrBe (0) w) := by
  have hal := alloc_at w (.cells #[.string (tx a.nm), .int .i64 a.k, u, .int .i64 a.lo, .int .i64 a.hi] 43)
  have B0 := Lib.hid hal
  obtain ⟨p, c, rfl, _, _⟩ := h
  unfold AtV
  have hlen := hw.1.2.1
  clear hw hal
  generalize hnn : a.ws.length = n at *
  generalize tx a.nm = nm at *
  generalize hkk : a.k = k at *
  generalize a.lo = lo at *
  generalize a.hi = hi at *
  clear hnn hkk
  subst hk
  subst h3
  subst h1
  subst h2
  go_enter Tryz.func50, Tryz.ntmps50
  go_wp2_with fail
  go_ret
  exact ⟨rfl, B0.out⟩
set_option maxHeartbeats 2000000 in
theorem p_w_lo (a : At) (u : Value) (w : World) (h : StrsAt w u a.ws) (hw : AtWf a) (hk : a.k = 1) (h1 : a.lo ≠ 0) : Calls Tryz.prog 48 #[AtV a u] w (ErrBe (20) w) := by
  have hal := alloc_at w (.cells #[.string (tx a.nm), .int .i64 a.k, u, .int .i64 a.lo, .int .i64 a.hi] 43)
  have B0 := Lib.hid hal
  obtain ⟨p, c, rfl, _, _⟩ := h
  unfold AtV
  have hlen := hw.1.2.1
  clear hw hal
  generalize hnn : a.ws.length = n at *
  generalize tx a.nm = nm at *
  generalize hkk : a.k = k at *
  generalize a.lo = lo at *
  generalize a.hi = hi at *
  clear hnn hkk
  subst hk
  have b1 : (lo == 0) = false := by simpa using h1
  clear h1
  go_enter Tryz.func48, Tryz.ntmps48
  go_wp2_with fail
  go_ret
  exact ⟨rfl, B0.out⟩
set_option maxHeartbeats 2000000 in
theorem p_w_hi (a : At) (u : Value) (w : World) (h : StrsAt w u a.ws) (hw : AtWf a) (hk : a.k = 1) (h1 : a.lo = 0) (h2 : a.hi ≠ 0) : Calls Tryz.prog 48 #[AtV a u] w (ErrBe (20) w) := by
  have hal := alloc_at w (.cells #[.string (tx a.nm), .int .i64 a.k, u, .int .i64 a.lo, .int .i64 a.hi] 43)
  have B0 := Lib.hid hal
  obtain ⟨p, c, rfl, _, _⟩ := h
  unfold AtV
  have hlen := hw.1.2.1
  clear hw hal
  generalize hnn : a.ws.length = n at *
  generalize tx a.nm = nm at *
  generalize hkk : a.k = k at *
  generalize a.lo = lo at *
  generalize a.hi = hi at *
  clear hnn hkk
  subst hk
  subst h1
  have b2 : (hi == 0) = false := by simpa using h2
  clear h2
  go_enter Tryz.func48, Tryz.ntmps48
  go_wp2_with fail
  go_ret
  exact ⟨rfl, B0.out⟩
set_option maxHeartbeats 2000000 in
theorem p_w_no (a : At) (u : Value) (w : World) (h : StrsAt w u a.ws) (hw : AtWf a) (hk : a.k = 1) (h1 : a.lo = 0) (h2 : a.hi = 0) (h3 : a.ws.length = 0) : Calls Tryz.prog 48 #[AtV a u] w (ErrBe (19) w) := by
  have hal := alloc_at w (.cells #[.string (tx a.nm), .int .i64 a.k, u, .int .i64 a.lo, .int .i64 a.hi] 43)
  have B0 := Lib.hid hal
  obtain ⟨p, c, rfl, _, _⟩ := h
  unfold AtV
  have hlen := hw.1.2.1
  clear hw hal
  generalize hnn : a.ws.length = n at *
  generalize tx a.nm = nm at *
  generalize hkk : a.k = k at *
  generalize a.lo = lo at *
  generalize a.hi = hi at *
  clear hnn hkk
  subst hk
  subst h1
  subst h2
  subst h3
  go_enter Tryz.func48, Tryz.ntmps48
  go_wp2_with fail
  go_ret
  exact ⟨rfl, B0.out⟩
set_option maxHeartbeats 2000000 in
theorem p_w_lim (a : At) (u : Value) (w : World) (h : StrsAt w u a.ws) (hw : AtWf a) (hk : a.k = 1) (h1 : a.lo = 0) (h2 : a.hi = 0) (h3 : 12 < a.ws.length) : Calls Tryz.prog 48 #[AtV a u] w (ErrBe (4) w) := by
  have hal := alloc_at w (.cells #[.string (tx a.nm), .int .i64 a.k, u, .int .i64 a.lo, .int .i64 a.hi] 43)
  have B0 := Lib.hid hal
  obtain ⟨p, c, rfl, _, _⟩ := h
  unfold AtV
  have hlen := hw.1.2.1
  clear hw hal
  generalize hnn : a.ws.length = n at *
  generalize tx a.nm = nm at *
  generalize hkk : a.k = k at *
  generalize a.lo = lo at *
  generalize a.hi = hi at *
  clear hnn hkk
  subst hk
  subst h1
  subst h2
  have b3 : ((n : Int) == 0) = false := by simp; omega
  have b4 : decide ((0 : Int) < (n : Int)) = true := by simp; omega
  have b5 : decide (0 < n) = true := by simp; omega
  have b6 : (n == 0) = false := by simp; omega
  have c1 : decide ((12 : Int) < (n : Int)) = true := by simp; omega
  have c2 : decide (12 < n) = true := by simp; omega
  clear h3
  go_enter Tryz.func48, Tryz.ntmps48
  go_wp2_with fail
  go_ret
  exact ⟨rfl, B0.out⟩
theorem mem_take_iff (l : List (List UInt8)) (i : Nat) (hi : i < l.length) : l.getD i [] ∈ l.take i ↔ ∃ k, k < i ∧ l.getD i [] = l.getD k [] := by
  rw [List.mem_iff_getElem]
  constructor
  · rintro ⟨k, hk, e⟩
    have hk' : k < i := by rw [List.length_take] at hk; omega
    refine ⟨k, hk', ?_⟩
    rw [← e, List.getElem_take, List.getD_eq_getElem?_getD, List.getElem?_eq_getElem (by omega)]; rfl
  · rintro ⟨k, hk, e⟩
    refine ⟨k, by rw [List.length_take]; omega, ?_⟩
    rw [e, List.getElem_take, List.getD_eq_getElem?_getD, List.getElem?_eq_getElem (by omega)]; rfl
theorem attE_w (a : At) (hk : a.k = 1) (h1 : a.lo = 0) (h2 : a.hi = 0) (h3 : 0 < a.ws.length) (h4 : a.ws.length ≤ 12) : attE a = if namesB a.ws = false then 6 else if distB a.ws = false then 8 else 0 := by
  unfold attE
  rw [if_pos hk, if_neg (by omega), if_neg (by omega), if_neg (by omega)]
set_option maxRecDepth 8000 in
set_option maxHeartbeats 8000000 in
theorem p_w_some (a : At) (u : Value) (w : World) (h : StrsAt w u a.ws) (hw : AtWf a) (hk : a.k = 1) (h1 : a.lo = 0) (h2 : a.hi = 0) (h3 : 0 < a.ws.length) (h4 : a.ws.length ≤ 12) : Calls Tryz.prog 48 #[AtV a u] w (ErrBe (attE a) w) := by
  have hal := alloc_at w (.cells #[.string (tx a.nm), .int .i64 a.k, u, .int .i64 a.lo, .int .i64 a.hi] 43)
  have B0 := Lib.hid hal
  have hS := h.below hal
  have hE := attE_w a hk h1 h2 h3 h4
  have hE1 := Lib.hid (show ∀ k, k < a.ws.length → nameB (a.ws.getD k []) = false → attE a = 6 from fun k hk h => by rw [hE, if_pos (names_no hk h)])
  have hE2 := Lib.hid (show (∀ j, j < a.ws.length → nameB (a.ws.getD j []) = true) → ∀ i, i < a.ws.length → ∀ k, k < i → a.ws.getD i [] = a.ws.getD k [] → attE a = 8 from fun h i hi k hk e => by
    rw [hE, if_neg (by rw [show namesB a.ws = true from decide_eq_true h]; simp), if_pos (dist_no hi hk e)])
  have hE3 := Lib.hid (show (∀ j, j < a.ws.length → nameB (a.ws.getD j []) = true) → (∀ i, i < a.ws.length → ∀ k, k < i → a.ws.getD i [] ≠ a.ws.getD k []) → attE a = 0 from fun h g => by
    rw [hE, if_neg (by rw [show namesB a.ws = true from decide_eq_true h]; simp), if_neg (by rw [show distB a.ws = true from decide_eq_true g]; simp)])
  have hmem := Lib.hid (mem_take_iff a.ws)
  clear hE
  obtain ⟨p, c, rfl, ⟨hcap, _⟩, _⟩ := h
  obtain ⟨p', c', hv, _, hp⟩ := hS
  obtain rfl : p' = p := by cases hv; rfl
  obtain rfl : c' = c := by cases hv; rfl
  clear hv
  unfold AtV
  have hlen := hw.1.2.1
  have hx := Lib.hid hw.1.2.2
  generalize attE a = E at *
  generalize a.ws = l at *
  have cC := Lib.hid (fun i x w hi hp => pcont_any p' c' l i x w hi hlen hp)
  obtain ⟨n, hn⟩ : ∃ n, l.length = n := ⟨_, rfl⟩
  have hn' := Lib.hid hn
  have hp' := Lib.hid hp
  rw [hn] at h3 h4 hcap hlen hE1 hE2 hE3 B0 hp' ⊢
  clear hw hal hn hp
  generalize tx a.nm = nm at *
  generalize a.k = k at *
  generalize a.lo = lo at *
  generalize a.hi = hi at *
  subst hk
  subst h1
  subst h2
  have b3 : ((n : Int) == 0) = false := by simp; omega
  have b4 : decide ((0 : Int) < (n : Int)) = true := by simp; omega
  have b5 : decide (0 < n) = true := by simp; omega
  have b6 : (n == 0) = false := by simp; omega
  have c1 : decide ((12 : Int) < (n : Int)) = false := by simp; omega
  have c2 : decide (12 < n) = false := by simp; omega
  go_enter Tryz.func48, Tryz.ntmps48
  go_wp2_with fail
  clear b3 b4 b5 b6 c1 c2
  have O0 : (w.alloc (.cells #[.string nm, .int .i64 1, .slice p' n c', .int .i64 0, .int .i64 0] 43)).cell? ⟨w.heap.size, 2, none⟩ = some (.slice p' n c') := by simp
  obtain ⟨b0, hb0⟩ : ∃ b, w.heap.size = b := ⟨_, rfl⟩
  rw [hb0] at O0 ⊢
  clear hb0
  generalize w.alloc (.cells #[.string nm, .int .i64 1, .slice p' n c', .int .i64 0, .int .i64 0] 43) = W0 at *
  go_loopw [29] (fun i wr => ∃ k : Nat, k ≤ n ∧ i = .int .i64 k ∧ wr = W0 ∧ Hid (∀ j, j < k → nameB (l.getD j []) = true)) (fun i _ => n - (RowKit.intOf i).toNat)
  case atStart => exact ⟨0, Nat.zero_le _, rfl, rfl, Lib.hid (fun j hj => absurd hj (Nat.not_lt_zero _))⟩
  case round =>
    obtain ⟨k, hk, rfl, rfl, hA⟩ := hrel
    by_cases hlt : k < n
    · obtain ⟨b, off, rfl, hc⟩ := hp'.out (by omega)
      have y1 := hc k hlt
      have hgl : (l.getD k []).length ≤ 9223372036854775807 := by
        have hkl : k < l.length := by rw [hn'.out]; exact hlt
        rw [List.getD_eq_getElem?_getD, List.getElem?_eq_getElem hkl]
        exact hx.out _ (List.getElem_mem _)
      have cN := Lib.hid (pname_tx (l.getD k []) wr hgl)
      have hno := Lib.hid (hE1.out k hlt)
      have hye := Lib.hid (fun (h : nameB (l.getD k []) = true) => (show ∀ j, j < k + 1 → nameB (l.getD j []) = true from fun j hj => by
        by_cases e : j = k
        · rw [e]; exact h
        · exact hA.out j (by omega)))
      clear hc hgl hp' cC
      generalize nameB (l.getD k []) = q at *
      generalize tx (l.getD k []) = s at *
      have hk64 : IntKind.i64.wrap ((k : Int) + 1) = (k : Int) + 1 := IntWalk.i64_in _ (by omega)
      go_wp2_with fail
      refine cN.out.mono ?_; rintro e w' ⟨rfl, rfl⟩
      cases q with
      | true =>
        have hA2 := Lib.hid (hye.out rfl)
        clear hye hno cN y1
        go_wp2_with fail
        go_roundw
        case rel => exact ⟨k + 1, by omega, by go_num, by first | rfl | trivial, hA2⟩
        case measure => simp [RowKit.intOf]; omega
      | false =>
        have hB := Lib.hid (hno.out rfl)
        clear hye hno cN y1
        go_wp2_with fail
        go_ret
        exact ⟨ret_i hB.out.symm, B0.out⟩
    · obtain rfl : k = n := by omega
      have hAll := Lib.hid (show ∀ j, j < k → nameB (l.getD j []) = true from hA.out)
      have hE2' := Lib.hid (hE2.out hA.out)
      have hE3' := Lib.hid (hE3.out hA.out)
      clear hE1 hE2 hE3 hA hlt hk
      go_wp2_with fail
      go_loopw [40] (fun i w2 => ∃ m : Nat, m ≤ k ∧ i = .int .i64 m ∧ w2 = wr ∧ Hid (∀ i, i < m → ∀ k, k < i → l.getD i [] ≠ l.getD k [])) (fun i _ => k - (RowKit.intOf i).toNat)
      case atStart => exact ⟨0, Nat.zero_le _, rfl, rfl, Lib.hid (fun j hj => absurd hj (Nat.not_lt_zero _))⟩
      case round =>
        obtain ⟨m, hm, rfl, rfl, hD⟩ := hrel
        by_cases hmk : m < k
        · have hcl := Lib.hid (cC.out m (l.getD m []) wr (by rw [hn'.out]; omega) (by rw [hn'.out]; exact hp'.out))
          obtain ⟨b, off, rfl, hc⟩ := hp'.out (by omega)
          have y1 := hc m hmk
          have hdec : decide (l.getD m [] ∈ l.take m) = true ∨ decide (l.getD m [] ∈ l.take m) = false := by cases decide (l.getD m [] ∈ l.take m) <;> simp
          have hml : m < l.length := by rw [hn'.out]; exact hmk
          have hno := Lib.hid (fun (h : decide (l.getD m [] ∈ l.take m) = true) => (show E = 8 from by
            obtain ⟨j, hj, e⟩ := (hmem.out m hml).1 (of_decide_eq_true h)
            exact hE2'.out m hmk j hj e))
          have hye := Lib.hid (fun (h : decide (l.getD m [] ∈ l.take m) = false) => (show ∀ i, i < m + 1 → ∀ k, k < i → l.getD i [] ≠ l.getD k [] from fun i hi j hj => by
            by_cases e : i = m
            · subst e; intro e2; exact of_decide_eq_false h ((hmem.out i hml).2 ⟨j, hj, e2⟩)
            · exact hD.out i (by omega) j hj))
          have hm64 : IntKind.i64.wrap ((m : Int) + 1) = (m : Int) + 1 := IntWalk.i64_in _ (by omega)
          have hmc : m ≤ c' := by omega
          clear hc hp' cC hml hD hmem
          generalize decide (l.getD m [] ∈ l.take m) = q at *
          generalize tx (l.getD m []) = s at *
          go_wp2_with fail
          refine hcl.out.mono ?_; rintro e w' ⟨rfl, rfl⟩
          cases q with
          | false =>
            have hD2 := Lib.hid (hye.out rfl)
            clear hye hno hcl y1
            go_wp2_with fail
            go_roundw
            case rel => exact ⟨m + 1, by omega, by go_num, by first | rfl | trivial, hD2⟩
            case measure => simp [RowKit.intOf]; omega
          | true =>
            have hB := Lib.hid (hno.out rfl)
            clear hye hno hcl y1
            go_wp2_with fail
            go_ret
            exact ⟨ret_i hB.out.symm, B0.out⟩
        · obtain rfl : m = k := by omega
          have hB := Lib.hid (hE3'.out hD.out)
          go_wp2_with fail
          go_ret
          exact ⟨ret_i hB.out.symm, B0.out⟩
theorem pword_any (a : At) (u : Value) (w : World) (h : StrsAt w u a.ws) (hw : AtWf a) (hk : a.k = 1) : Calls Tryz.prog 48 #[AtV a u] w (ErrBe (attE a) w) := by
  by_cases h1 : a.lo ≠ 0
  · rw [show attE a = 20 by unfold attE; rw [if_pos hk, if_pos (.inl h1)]]; exact p_w_lo a u w h hw hk h1
  · have h1' : a.lo = 0 := by simpa using h1
    by_cases h2 : a.hi ≠ 0
    · rw [show attE a = 20 by unfold attE; rw [if_pos hk, if_pos (.inr h2)]]; exact p_w_hi a u w h hw hk h1' h2
    · have h2' : a.hi = 0 := by simpa using h2
      by_cases h3 : a.ws.length = 0
      · rw [show attE a = 19 by unfold attE; rw [if_pos hk, if_neg (by omega), if_pos h3]]; exact p_w_no a u w h hw hk h1' h2' h3
      · by_cases h4 : 12 < a.ws.length
        · rw [show attE a = 4 by unfold attE; rw [if_pos hk, if_neg (by omega), if_neg h3, if_pos h4]]; exact p_w_lim a u w h hw hk h1' h2' h4
        · exact p_w_some a u w h hw hk h1' h2' (by omega) (by omega)
theorem pnum_any (a : At) (u : Value) (w : World) (h : StrsAt w u a.ws) (hw : AtWf a) (hk : a.k = 2) : Calls Tryz.prog 49 #[AtV a u] w (ErrBe (attE a) w) := by
  have hE : attE a = if 0 < a.ws.length then 20 else if a.hi < a.lo ∨ farB a.lo = true ∨ farB a.hi = true then 1 else 0 := by unfold attE; rw [if_neg (by omega), if_pos hk]
  rw [hE]
  by_cases h3 : 0 < a.ws.length
  · rw [if_pos h3]; exact p_n_ws a u w h hw hk h3
  · rw [if_neg h3]
    have h3' : a.ws.length = 0 := by omega
    by_cases h4 : a.lo < -1000000000
    · rw [if_pos (.inr (.inl (by unfold farB; rw [decide_eq_true (show a.lo < -1000000000 from h4), Bool.or_true])))]; exact p_n_lo a u w h hw hk h3' h4
    · by_cases h5 : a.hi < a.lo
      · rw [if_pos (.inl h5)]; exact p_n_or a u w h hw hk h3' (by omega) h5
      · by_cases h6 : 1000000000 < a.hi
        · rw [if_pos (.inr (.inr (by unfold farB; rw [decide_eq_true (show a.hi > 1000000000 from h6), Bool.true_or])))]; exact p_n_hi a u w h hw hk h3' (by omega) (by omega) h6
        · rw [if_neg]
          · exact p_n_ok a u w h hw hk h3' (by omega) (by omega) (by omega)
          · unfold farB
            rintro (e | e | e)
            · exact h5 e
            · simp at e; omega
            · simp at e; omega
theorem ptruth_any (a : At) (u : Value) (w : World) (h : StrsAt w u a.ws) (hw : AtWf a) (hk : a.k = 3) : Calls Tryz.prog 50 #[AtV a u] w (ErrBe (attE a) w) := by
  have hE : attE a = if 0 < a.ws.length ∨ a.lo ≠ 0 ∨ a.hi ≠ 0 then 20 else 0 := by unfold attE; rw [if_neg (by omega), if_neg (by omega), if_pos hk]
  rw [hE]
  by_cases h3 : 0 < a.ws.length
  · rw [if_pos (.inl h3)]; exact p_t_ws a u w h hw hk h3
  · have h3' : a.ws.length = 0 := by omega
    by_cases h1 : a.lo ≠ 0
    · rw [if_pos (.inr (.inl h1))]; exact p_t_lo a u w h hw hk h3' h1
    · have h1' : a.lo = 0 := by simpa using h1
      by_cases h2 : a.hi ≠ 0
      · rw [if_pos (.inr (.inr h2))]; exact p_t_hi a u w h hw hk h3' h1' h2
      · have h2' : a.hi = 0 := by simpa using h2
        rw [if_neg (by omega)]; exact p_t_ok a u w h hw hk h3' h1' h2'
end Go.Proofs.YtdehldcgakdobaaGreatDoor.Sc
