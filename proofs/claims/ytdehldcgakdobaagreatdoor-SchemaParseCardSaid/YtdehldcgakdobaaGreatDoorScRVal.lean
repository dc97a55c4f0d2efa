/- The reference's value: what a text is of an attribute. -/
import Derived.Test.YtdehldcgakdobaaGreatDoorScParM
import Derived.Test.YtdehldcgakdobaaGreatDoorScPRead
namespace Go.Proofs.YtdehldcgakdobaaGreatDoor.Sc
open Go.RowKit Go.Lib Go.Proofs.YtdehldcgakdobaaGreatDoor.Bas Go.Proofs.YtdehldcgakdobaaGreatDoor.Cal Go.Proofs.YtdehldcgakdobaaGreatDoor.Lx
set_option linter.unusedVariables false

def ValBe (a : At) (T : List UInt8) (w : World) (e : Ending) (w' : World) : Prop := ∃ (z : Int) (b : Bool), e = .returned (.tuple #[.int .i64 z, .bool b]) ∧ Below w.heap.size w w' ∧ (b = true → valT a z = T) ∧ (∀ y, ReadOk a T y → b = true ∧ z = y)
set_option maxRecDepth 8000 in
set_option maxHeartbeats 4000000 in
theorem rval_word (a : At) (u : Value) (T : List UInt8) (w : World) (h : StrsAt w u a.ws) (he : attE a = 0) (hk : a.k = 1) : Calls Tryz.prog 27 #[AtV a u, .string (tx T)] w (ValBe a T w) := by
  have hal := alloc_at w (.cells #[.string (tx a.nm), .int .i64 a.k, u, .int .i64 a.lo, .int .i64 a.hi] 43)
  have B0 := Lib.hid hal
  have S0 := Lib.hid (h.below hal)
  have K0 := Lib.hid (AAt.new w a u 43)
  have hl12 : a.ws.length ≤ 12 := by
    rcases attE_ok a he with ⟨_, _, _, _, h4, _⟩ | ⟨h, _⟩ | ⟨h, _⟩ <;> omega
  have hval := Lib.hid (fun z => valT_w hk z)
  have hone := Lib.hid (fun y z => @readOk_one a T y z he)
  have hdm := Lib.hid (show domV a = (0, (a.ws.length : Int) - 1) from if_pos hk)
  have hk' := Lib.hid hk
  unfold AtV
  obtain ⟨p, c, rfl, _, _⟩ := h
  clear hal hk he
  generalize hws : a.ws = l at *
  clear hws
  obtain ⟨n, hn⟩ : ∃ n, l.length = n := ⟨_, rfl⟩
  have hn' := Lib.hid hn
  rw [hn] at B0 S0 K0 hl12 ⊢
  clear hn
  go_enter Tryz.func27, Tryz.ntmps27
  go_upto_region 1 with fail
  obtain ⟨b0, hb0⟩ : ∃ b, w.heap.size = b := ⟨_, rfl⟩
  rw [hb0] at K0 ⊢
  clear hb0
  generalize w.alloc (.cells #[.string (tx a.nm), .int .i64 a.k, .slice p n c, .int .i64 a.lo, .int .i64 a.hi] 43) = W0 at *
  obtain ⟨_, z0, z1, z2, z3, z4⟩ := K0.out
  rw [hk'.out] at z1
  go_wp2_with fail
  clear z0 z1 z3 z4
  go_loopw [6] (fun i wr => ∃ k : Nat, k ≤ n ∧ i = .int .i64 k ∧ wr = W0 ∧ Hid (∀ j, j < k → l.getD j [] ≠ T)) (fun i _ => n - (RowKit.intOf i).toNat)
  case atStart => exact ⟨0, Nat.zero_le _, rfl, rfl, Lib.hid (fun j hj => absurd hj (Nat.not_lt_zero _))⟩
  case round =>
    obtain ⟨k, hk, rfl, rfl, hZ⟩ := hrel
    by_cases hlt : k < n
    · obtain ⟨p', c', hv, _, hp⟩ := S0.out
      obtain ⟨b, off, hpb, hc⟩ := hp (by rw [hn'.out]; omega)
      obtain rfl : p' = p := by cases hv; rfl
      subst hpb
      have y := hc k (by rw [hn'.out]; exact hlt)
      clear hv hp hc
      have hk64 : IntKind.i64.wrap ((k : Int) + 1) = (k : Int) + 1 := IntWalk.i64_in _ (by omega)
      have tt := tx_test (l.getD k []) T
      by_cases hxy : l.getD k [] = T
      · rw [decide_eq_true hxy] at tt
        have hin : (domV a).1 ≤ (k : Int) ∧ (k : Int) ≤ (domV a).2 := by rw [hdm.out]; exact ⟨by show (0 : Int) ≤ k; omega, by show (k : Int) ≤ _; have := hn'.out; omega⟩
        have hfin := Lib.hid (show ValBe a T w (.returned (.tuple #[.int .i64 (k : Int), .bool true])) wr from ⟨k, true, rfl, B0.out, fun _ => by rw [hval.out, Int.toNat_natCast]; exact hxy, fun y hy => ⟨rfl, hone.out _ _ ⟨hin.1, hin.2, by rw [hval.out, Int.toNat_natCast]; exact hxy⟩ hy⟩⟩)
        clear hxy hZ hin
        generalize tx (l.getD k []) = sx at *
        generalize tx T = st at *
        go_wp2_with fail
        go_ret2
        exact hfin.out
      · rw [decide_eq_false hxy] at tt
        have hZ2 := Lib.hid (show ∀ j, j < k + 1 → l.getD j [] ≠ T from fun j hj => by
          by_cases e : j = k
          · rw [e]; exact hxy
          · exact hZ.out j (by omega))
        clear hxy hZ
        generalize tx (l.getD k []) = sx at *
        generalize tx T = st at *
        go_wp2_with fail
        go_roundw
        case rel => exact ⟨k + 1, by omega, by go_num, by first | rfl | trivial, hZ2⟩
        case measure => simp [RowKit.intOf]; omega
    · obtain rfl : k = n := by omega
      have hfin := Lib.hid (show ValBe a T w (.returned (.tuple #[.int .i64 0, .bool false])) wr from ⟨0, false, rfl, B0.out, (fun h => by cases h), fun y ⟨h1, h2, h3⟩ => by
        rw [hdm.out] at h1 h2
        have h1' : (0 : Int) ≤ y := h1
        have h2' : y ≤ (l.length : Int) - 1 := h2
        rw [hval.out] at h3
        exact absurd h3 (hZ.out _ (by have := hn'.out; omega))⟩)
      go_wp2_with fail
      go_ret2
      exact hfin.out
set_option maxRecDepth 8000 in
set_option maxHeartbeats 4000000 in
theorem rval_truth (a : At) (u : Value) (T : List UInt8) (w : World) (h : StrsAt w u a.ws) (he : attE a = 0) (hk : a.k = 3) (hT : T.length ≤ 9000) : Calls Tryz.prog 27 #[AtV a u, .string (tx T)] w (ValBe a T w) := by
  have hal := alloc_at w (.cells #[.string (tx a.nm), .int .i64 a.k, u, .int .i64 a.lo, .int .i64 a.hi] 43)
  have B0 := Lib.hid hal
  have K0 := Lib.hid (AAt.new w a u 43)
  have hval := Lib.hid (fun z => valT_t hk z)
  have hdm : domV a = (0, 1) := by unfold domV; rw [if_neg (by omega), if_neg (by omega)]
  have hRd := Lib.hid (fun y (hy : ReadOk a T y) => show (y = 1 ∧ T = [121, 101, 115]) ∨ (y = 0 ∧ T = [110, 111]) from by
    obtain ⟨h1, h2, h3⟩ := hy
    rw [hdm] at h1 h2
    have h1' : (0 : Int) ≤ y := h1
    have h2' : y ≤ 1 := h2
    rw [valT_t hk] at h3
    by_cases e : y = 1
    · rw [if_pos e] at h3; exact .inl ⟨e, h3.symm⟩
    · rw [if_neg e] at h3; exact .inr ⟨by omega, h3.symm⟩)
  have hk' := Lib.hid hk
  unfold AtV
  obtain ⟨p, c, rfl, _, _⟩ := h
  clear hal hk he hdm
  have hsz : (tx T).size = T.length := tx_size T
  have hsz' := Lib.hid hsz
  have e1 := tx_test T [121, 101, 115]
  have e2 := tx_test T [110, 111]
  rw [show tx [121, 101, 115] = { data := #[121, 101, 115] } from rfl] at e1
  rw [show tx [110, 111] = { data := #[110, 111] } from rfl] at e2
  have e1b : ((tx T).toList == [121, 101, 115]) = decide (T = [121, 101, 115]) := by rw [toList_bl, bl_tx]; by_cases h : T = [121, 101, 115] <;> simp [h]
  have e2b : ((tx T).toList == [110, 111]) = decide (T = [110, 111]) := by rw [toList_bl, bl_tx]; by_cases h : T = [110, 111] <;> simp [h]
  have hsub : IntKind.i64.wrap ((T.length : Int) - 2) = (T.length : Int) - 2 := IntWalk.i64_in _ (by omega)
  by_cases hy : T = [121, 101, 115]
  · have hfin := Lib.hid (fun W (hB : Below w.heap.size w W) => show ValBe a T w (.returned (.tuple #[.int .i64 ((T.length : Int) - 2), .bool true])) W from ⟨_, true, rfl, hB, fun _ => by rw [hval.out, hy]; rfl, fun y h => ⟨rfl, by
      rcases hRd.out y h with ⟨g, _⟩ | ⟨_, g⟩
      · rw [g, hy]; rfl
      · rw [hy] at g; cases g⟩⟩)
    rw [decide_eq_true hy] at e1 e1b
    clear hRd hval e2 e2b hy hT
    generalize T.length = n at *
    generalize tx T = s at *
    go_enter Tryz.func27, Tryz.ntmps27
    go_upto_region 1 with fail
    obtain ⟨b0, hb0⟩ : ∃ b, w.heap.size = b := ⟨_, rfl⟩
    rw [hb0] at K0 ⊢
    clear hb0
    generalize w.alloc (.cells #[.string (tx a.nm), .int .i64 a.k, .slice p a.ws.length c, .int .i64 a.lo, .int .i64 a.hi] 43) = W0 at *
    obtain ⟨_, z0, z1, z2, z3, z4⟩ := K0.out
    rw [hk'.out] at z1
    go_wp2_with fail
    go_ret2
    exact hfin.out _ B0.out
  · by_cases hno : T = [110, 111]
    · have hfin := Lib.hid (fun W (hB : Below w.heap.size w W) => show ValBe a T w (.returned (.tuple #[.int .i64 ((T.length : Int) - 2), .bool true])) W from ⟨_, true, rfl, hB, fun _ => by rw [hval.out, hno]; rfl, fun y h => ⟨rfl, by
        rcases hRd.out y h with ⟨_, g⟩ | ⟨g, _⟩
        · exact absurd g hy
        · rw [g, hno]; rfl⟩⟩)
      rw [decide_eq_false hy] at e1 e1b
      rw [decide_eq_true hno] at e2 e2b
      clear hRd hval hy hno hT
      generalize T.length = n at *
      generalize tx T = s at *
      go_enter Tryz.func27, Tryz.ntmps27
      go_upto_region 1 with fail
      obtain ⟨b0, hb0⟩ : ∃ b, w.heap.size = b := ⟨_, rfl⟩
      rw [hb0] at K0 ⊢
      clear hb0
      generalize w.alloc (.cells #[.string (tx a.nm), .int .i64 a.k, .slice p a.ws.length c, .int .i64 a.lo, .int .i64 a.hi] 43) = W0 at *
      obtain ⟨_, z0, z1, z2, z3, z4⟩ := K0.out
      rw [hk'.out] at z1
      go_wp2_with fail
      go_ret2
      exact hfin.out _ B0.out
    · have hfin := Lib.hid (fun W (hB : Below w.heap.size w W) => show ValBe a T w (.returned (.tuple #[.int .i64 ((T.length : Int) - 2), .bool false])) W from ⟨_, false, rfl, hB, (fun h => by cases h), fun y h => by
        rcases hRd.out y h with ⟨_, g⟩ | ⟨_, g⟩
        · exact absurd g hy
        · exact absurd g hno⟩)
      rw [decide_eq_false hy] at e1 e1b
      rw [decide_eq_false hno] at e2 e2b
      clear hRd hval hy hno hT
      generalize T.length = n at *
      generalize tx T = s at *
      go_enter Tryz.func27, Tryz.ntmps27
      go_upto_region 1 with fail
      obtain ⟨b0, hb0⟩ : ∃ b, w.heap.size = b := ⟨_, rfl⟩
      rw [hb0] at K0 ⊢
      clear hb0
      generalize w.alloc (.cells #[.string (tx a.nm), .int .i64 a.k, .slice p a.ws.length c, .int .i64 a.lo, .int .i64 a.hi] 43) = W0 at *
      obtain ⟨_, z0, z1, z2, z3, z4⟩ := K0.out
      rw [hk'.out] at z1
      go_wp2_with fail
      go_ret2
      exact hfin.out _ B0.out
end Go.Proofs.YtdehldcgakdobaaGreatDoor.Sc
