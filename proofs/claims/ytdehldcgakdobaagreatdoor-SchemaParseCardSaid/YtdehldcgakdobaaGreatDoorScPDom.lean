/- The program's words, domain, contains, written. -/
import Derived.Test.YtdehldcgakdobaaGreatDoorScPVal
import Derived.Test.YtdehldcgakdobaaGreatDoorScFmt
import Derived.Lib.AppendIntMem
namespace Go.Proofs.YtdehldcgakdobaaGreatDoor.Sc
open Go.RowKit Go.Lib Go.Proofs.YtdehldcgakdobaaGreatDoor.Bas Go.Proofs.YtdehldcgakdobaaGreatDoor.Cal Go.Proofs.YtdehldcgakdobaaGreatDoor.Lx
set_option linter.unusedVariables false

/-- The texts of the values. -/
def wordsV (a : At) : List (List UInt8) := if a.k = 3 then [[110, 111], [121, 101, 115]] else a.ws
def StrsBe (l : List (List UInt8)) (w : World) (e : Ending) (w' : World) : Prop := ∃ v, e = .returned v ∧ StrsAt w' v l ∧ Below w.heap.size w w'
set_option maxHeartbeats 2000000 in
theorem pwords_any (a : At) (u : Value) (w : World) (h : StrsAt w u a.ws) : Calls Tryz.prog 33 #[AtV a u] w (StrsBe (wordsV a) w) := by
  have hal := alloc_at w (.cells #[.string (tx a.nm), .int .i64 a.k, u, .int .i64 a.lo, .int .i64 a.hi] 43)
  have B0 := Lib.hid hal
  have S0 := Lib.hid (h.below hal)
  have K0 := Lib.hid (AAt.new w a u 43)
  by_cases hk : a.k = 3
  · have hV : wordsV a = [[110, 111], [121, 101, 115]] := if_pos hk
    rw [hV]
    have hE := Lib.hid (fun (W : World) => show StrsAt (W.alloc (.cells #[.string (tx [110, 111]), .string (tx [121, 101, 115])] 9)) (.slice (some ⟨W.heap.size, 0, none⟩) 2 2) [[110, 111], [121, 101, 115]] from
      ⟨some ⟨W.heap.size, 0, none⟩, 2, rfl, ⟨Nat.le_refl _, fun e => by cases e⟩, fun _ => ⟨_, _, rfl, fun j hj => by
        have hj' : j < 2 := hj
        have hcs : j = 0 ∨ j = 1 := by omega
        rcases hcs with rfl | rfl <;> simp⟩⟩)
    unfold AtV
    obtain ⟨p, c, rfl, _, _⟩ := h
    have hk' := Lib.hid hk
    clear hal hV S0 hk
    go_enter Tryz.func33, Tryz.ntmps33
    go_upto_region 1 with fail
    obtain ⟨b0, hb0⟩ : ∃ b, w.heap.size = b := ⟨_, rfl⟩
    rw [hb0] at K0 ⊢
    clear hb0
    generalize w.alloc (.cells #[.string (tx a.nm), .int .i64 a.k, .slice p a.ws.length c, .int .i64 a.lo, .int .i64 a.hi] 43) = W0 at *
    obtain ⟨_, z0, z1, z2, z3, z4⟩ := K0.out
    rw [hk'.out] at z1
    go_wp2_with fail
    go_ret
    exact ⟨_, rfl, hE.out W0, B0.out.trans ((alloc_at W0 _).mono B0.out.size)⟩
  · have hV : wordsV a = a.ws := if_neg hk
    rw [hV]
    have t1 : (a.k == 3) = false := by simpa using hk
    unfold AtV
    obtain ⟨p, c, rfl, _, _⟩ := h
    clear hal hV hk
    go_enter Tryz.func33, Tryz.ntmps33
    go_upto_region 1 with fail
    obtain ⟨b0, hb0⟩ : ∃ b, w.heap.size = b := ⟨_, rfl⟩
    rw [hb0] at K0 ⊢
    clear hb0
    generalize w.alloc (.cells #[.string (tx a.nm), .int .i64 a.k, .slice p a.ws.length c, .int .i64 a.lo, .int .i64 a.hi] 43) = W0 at *
    obtain ⟨_, z0, z1, z2, z3, z4⟩ := K0.out
    go_wp2_with fail
    go_ret
    exact ⟨_, rfl, S0.out, B0.out⟩
set_option maxHeartbeats 2000000 in
theorem pdom_any (a : At) (u : Value) (w : World) (h : StrsAt w u a.ws) (hw : AtWf a) (he : attE a = 0) : Calls Tryz.prog 41 #[AtV a u] w (PairBe (domV a) w) := by
  have hal := alloc_at w (.cells #[.string (tx a.nm), .int .i64 a.k, u, .int .i64 a.lo, .int .i64 a.hi] 43)
  have B0 := Lib.hid hal
  have S0 := Lib.hid (h.below hal)
  have K0 := Lib.hid (AAt.new w a u 43)
  have cW := Lib.hid (fun W hS => pwords_any a u W hS)
  by_cases hk : a.k = 2
  · have hV : domV a = (a.lo, a.hi) := by unfold domV; rw [if_neg (by omega), if_pos hk]
    rw [hV]
    unfold AtV
    obtain ⟨p, c, rfl, _, _⟩ := h
    have hk' := Lib.hid hk
    clear hal hV S0 cW hk
    go_enter Tryz.func41, Tryz.ntmps41
    go_upto_region 1 with fail
    obtain ⟨b0, hb0⟩ : ∃ b, w.heap.size = b := ⟨_, rfl⟩
    rw [hb0] at K0 ⊢
    clear hb0
    generalize w.alloc (.cells #[.string (tx a.nm), .int .i64 a.k, .slice p a.ws.length c, .int .i64 a.lo, .int .i64 a.hi] 43) = W0 at *
    obtain ⟨_, z0, z1, z2, z3, z4⟩ := K0.out
    rw [hk'.out] at z1
    go_wp2_with fail
    go_quiet (fail)
    go_wp2_with fail
    go_ret2
    exact ⟨rfl, below_drewN B0.out _⟩
  · have t1 : (a.k == 2) = false := by simpa using hk
    have hV : domV a = (0, ((wordsV a).length : Int) - 1) := by
      rcases attE_ok a he with ⟨k1, _⟩ | ⟨k1, _⟩ | ⟨k1, _⟩
      · unfold domV wordsV; rw [if_pos k1, if_neg (by omega)]
      · exact absurd k1 hk
      · unfold domV wordsV; rw [if_neg (by omega), if_neg hk, if_pos k1]; rfl
    have hl : (wordsV a).length ≤ 12 := by
      rcases attE_ok a he with ⟨k1, _, _, _, h12, _⟩ | ⟨k1, _⟩ | ⟨k1, _⟩
      · unfold wordsV; rw [if_neg (by omega)]; exact h12
      · exact absurd k1 hk
      · unfold wordsV; rw [if_pos k1]; decide
    rw [hV]
    unfold AtV at cW ⊢
    obtain ⟨p, c, rfl, _, _⟩ := h
    generalize wordsV a = V at *
    clear hal hV hk hw he
    go_enter Tryz.func41, Tryz.ntmps41
    go_upto_region 1 with fail
    obtain ⟨b0, hb0⟩ : ∃ b, w.heap.size = b := ⟨_, rfl⟩
    rw [hb0] at K0 ⊢
    clear hb0
    generalize w.alloc (.cells #[.string (tx a.nm), .int .i64 a.k, .slice p a.ws.length c, .int .i64 a.lo, .int .i64 a.hi] 43) = W0 at *
    obtain ⟨_, z0, z1, z2, z3, z4⟩ := K0.out
    have cX := Lib.hid (cW.out W0 S0.out)
    clear cW S0
    go_wp2_with fail
    refine cX.out.mono ?_; rintro e W1 ⟨v, rfl, ⟨pv, cv, rfl, _, _⟩, hB1⟩
    have B1 := Lib.hid (trans_b B0.out hB1)
    generalize V.length = m at *
    have hm64 : IntKind.i64.wrap ((m : Int) - 1) = (m : Int) - 1 := IntWalk.i64_in _ (by omega)
    clear hB1 cX
    go_wp2_with fail
    go_ret2
    exact ⟨rfl, B1.out⟩
def inB (a : At) (z : Int) : Bool := decide ((domV a).1 ≤ z) && decide (z ≤ (domV a).2)
set_option maxHeartbeats 2000000 in
theorem pcontains_any (a : At) (u : Value) (z : Int) (w : World) (h : StrsAt w u a.ws) (hw : AtWf a) (he : attE a = 0) : Calls Tryz.prog 31 #[AtV a u, .int .i64 z] w (BoolBe (inB a z) w) := by
  have hal := alloc_at w (.cells #[.string (tx a.nm), .int .i64 a.k, u, .int .i64 a.lo, .int .i64 a.hi] 43)
  have B0 := Lib.hid hal
  have S0 := Lib.hid (h.below hal)
  have K0 := Lib.hid (AAt.new w a u 43)
  have cD := Lib.hid (fun W hS => pdom_any a u W hS hw he)
  have hI : inB a z = (decide ((domV a).1 ≤ z) && decide (z ≤ (domV a).2)) := rfl
  obtain ⟨p, c, rfl, _, _⟩ := h
  unfold AtV at cD ⊢
  generalize domV a = d at *
  obtain ⟨d1, d2⟩ := d
  simp only at hI
  rw [hI]
  clear hal hw he hI
  go_enter Tryz.func31, Tryz.ntmps31
  go_upto_region 1 with fail
  obtain ⟨b0, hb0⟩ : ∃ b, w.heap.size = b := ⟨_, rfl⟩
  rw [hb0] at K0 ⊢
  clear hb0
  generalize w.alloc (.cells #[.string (tx a.nm), .int .i64 a.k, .slice p a.ws.length c, .int .i64 a.lo, .int .i64 a.hi] 43) = W0 at *
  obtain ⟨_, z0, z1, z2, z3, z4⟩ := K0.out
  have cX := Lib.hid (cD.out W0 S0.out)
  clear cD S0
  go_wp2_with fail
  refine cX.out.mono ?_; rintro e W1 ⟨rfl, hB1⟩
  have B1 := Lib.hid (trans_b B0.out hB1)
  clear hB1 cX
  cases h1 : decide (d1 ≤ z) with
  | true =>
    rw [Bool.true_and]
    go_wp2_with fail
    all_goals (go_ret; exact ⟨by first | rfl | (simp_all; done) | (simp_all; omega), B1.out⟩)
  | false =>
    rw [Bool.false_and]
    go_wp2_with fail
    all_goals (go_ret; exact ⟨by first | rfl | (simp_all; done) | (simp_all; omega), B1.out⟩)
def TxtBe (l : List UInt8) (w : World) (e : Ending) (w' : World) : Prop := e = .returned (.string (tx l)) ∧ Below w.heap.size w w'
theorem pitoa_any (n : Int) (w : World) (h0 : -9223372036854775808 ≤ n) (h1 : n ≤ 9223372036854775807) (hT : Lib.TabIs Tryz.prog w powName .u64 Lib.pow10Tab) : Calls Tryz.prog 32 #[.int .i64 n] w (TxtBe (itoa n) w) := by
  refine (Tryz.strconv_Itoa n h0 h1 w hT).mono ?_
  rintro e w' ⟨rfl, k, os, rfl⟩
  exact ⟨rfl, Lib.below_grow _ w (Nat.le_refl _) k os⟩
theorem valT_words (a : At) (z : Int) (he : attE a = 0) (hk : a.k ≠ 2) (h1 : (domV a).1 ≤ z) (h2 : z ≤ (domV a).2) : 0 ≤ z ∧ z.toNat < (wordsV a).length ∧ valT a z = (wordsV a).getD z.toNat [] := by
  rcases attE_ok a he with ⟨k1, _⟩ | ⟨k1, _⟩ | ⟨k1, _⟩
  · have hd : domV a = (0, (a.ws.length : Int) - 1) := if_pos k1
    rw [hd] at h1 h2
    simp only at h1 h2
    unfold wordsV valT
    rw [if_neg (by omega), if_pos k1]
    exact ⟨h1, by omega, rfl⟩
  · exact absurd k1 hk
  · have hd : domV a = (0, 1) := by unfold domV; rw [if_neg (by omega), if_neg hk]
    rw [hd] at h1 h2
    simp only at h1 h2
    have hcs : z = 0 ∨ z = 1 := by omega
    unfold wordsV valT
    rw [if_pos k1, if_neg (by omega), if_neg hk]
    rcases hcs with rfl | rfl
    · exact ⟨by decide, by decide, rfl⟩
    · exact ⟨by decide, by decide, rfl⟩
set_option maxHeartbeats 2000000 in
theorem pwritten_any (a : At) (u : Value) (z : Int) (w : World) (h : StrsAt w u a.ws) (hw : AtWf a) (he : attE a = 0) (h1 : (domV a).1 ≤ z) (h2 : z ≤ (domV a).2) (hT : Lib.TabIs Tryz.prog w powName .u64 Lib.pow10Tab)
    (hkeep : ∀ {w w' : World}, Lib.TabIs Tryz.prog w powName .u64 Lib.pow10Tab → Below w.heap.size w w' → Lib.TabIs Tryz.prog w' powName .u64 Lib.pow10Tab) :
    Calls Tryz.prog 20 #[AtV a u, .int .i64 z] w (TxtBe (valT a z) w) := by
  have hal := alloc_at w (.cells #[.string (tx a.nm), .int .i64 a.k, u, .int .i64 a.lo, .int .i64 a.hi] 43)
  have B0 := Lib.hid hal
  have S0 := Lib.hid (h.below hal)
  have K0 := Lib.hid (AAt.new w a u 43)
  have T0 := Lib.hid (hkeep hT hal)
  have hb := domV_bd a he
  have cW := Lib.hid (fun W hS => pwords_any a u W hS)
  by_cases hk : a.k = 2
  · have hV : valT a z = itoa z := by unfold valT; rw [if_neg (by omega), if_pos hk]
    rw [hV]
    have cI := Lib.hid (pitoa_any z _ (by omega) (by omega) T0.out)
    unfold AtV
    obtain ⟨p, c, rfl, _, _⟩ := h
    have hk' := Lib.hid hk
    clear hal hV S0 cW hb h1 h2 T0 hT hkeep hk hw he
    go_enter Tryz.func20, Tryz.ntmps20
    go_upto_region 1 with fail
    obtain ⟨b0, hb0⟩ : ∃ b, w.heap.size = b := ⟨_, rfl⟩
    rw [hb0] at K0 ⊢
    clear hb0
    generalize w.alloc (.cells #[.string (tx a.nm), .int .i64 a.k, .slice p a.ws.length c, .int .i64 a.lo, .int .i64 a.hi] 43) = W0 at *
    obtain ⟨_, z0, z1, z2, z3, z4⟩ := K0.out
    rw [hk'.out] at z1
    go_wp2_with fail
    refine cI.out.mono ?_; rintro e W1 ⟨rfl, hB1⟩
    have B1 := Lib.hid (trans_b B0.out hB1)
    clear hB1 cI
    go_wp2_with fail
    go_ret
    exact ⟨rfl, B1.out⟩
  · have t1 : (a.k == 2) = false := by simpa using hk
    obtain ⟨i1, i2, i3⟩ := valT_words a z he hk h1 h2
    obtain ⟨m, rfl⟩ : ∃ m : Nat, z = m := ⟨z.toNat, by omega⟩
    rw [Int.toNat_natCast] at i2 i3
    rw [i3]
    unfold AtV at cW ⊢
    obtain ⟨p, c, rfl, _, _⟩ := h
    generalize wordsV a = V at *
    obtain ⟨G, hG⟩ : ∃ G, V.getD m [] = G := ⟨_, rfl⟩
    rw [hG]
    have hG' := Lib.hid hG
    clear hal hk hw he hb h1 h2 i1 i3 T0 hT hkeep hG
    go_enter Tryz.func20, Tryz.ntmps20
    go_upto_region 1 with fail
    obtain ⟨b0, hb0⟩ : ∃ b, w.heap.size = b := ⟨_, rfl⟩
    rw [hb0] at K0 ⊢
    clear hb0
    generalize w.alloc (.cells #[.string (tx a.nm), .int .i64 a.k, .slice p a.ws.length c, .int .i64 a.lo, .int .i64 a.hi] 43) = W0 at *
    obtain ⟨_, z0, z1, z2, z3, z4⟩ := K0.out
    have cX := Lib.hid (cW.out W0 S0.out)
    clear cW S0
    go_wp2_with fail
    refine cX.out.mono ?_; rintro e W1 ⟨v, rfl, ⟨pv, cv, rfl, _, hpv⟩, hB1⟩
    have B1 := Lib.hid (trans_b B0.out hB1)
    obtain ⟨bv, ov, rfl, hc⟩ := hpv (by omega)
    have y := hc m i2
    rw [hG'.out] at y
    clear hB1 cX hpv hc
    generalize V.length = n at *
    go_wp2_with fail
    go_ret
    exact ⟨rfl, B1.out⟩
end Go.Proofs.YtdehldcgakdobaaGreatDoor.Sc
