/- perUnit of package exchange: sort.Search over the table. -/
import Derived.Test.YtcdfedkcefhdiaaExcVal
namespace Go.Proofs.Ytcdfedkcefhdiaa.Exc
open Go.RowKit Go.Lib Go.Proofs.Ytcdfedkcefhdiaa.Bas Go.Proofs.Ytcdfedkcefhdiaa.Spl Go.Proofs.Ytcdfedkcefhdiaa.Dk
set_option linter.unusedVariables false

/-- A cell of before stays. -/
theorem cellK {w w' : World} {b o : Nat} {u : Value} (h : w.cell? ⟨b, o, none⟩ = some u) (hB : Below w.heap.size w w') : w'.cell? ⟨b, o, none⟩ = some u := by
  rw [hB.cell (p := ⟨b, o, none⟩) (World.block_lt_of_cell? _ _ h)]; exact h
/-- Is the i-th rate behind this currency and hour? -/
def gtB (l : List Rt) (cur hr : Int) (i : Nat) : Bool := decide (cur < (rt l i).c ∨ (rt l i).c = cur ∧ hr < (rt l i).f)
/-- What perUnit's closure reads. -/
def CloAt (w : World) (b0 b1 b2 : Nat) (p : Option Addr) (n c : Nat) (cur hr : Int) : Prop :=
  w.cell? ⟨b0, 0, none⟩ = some (.slice p n c) ∧ w.cell? ⟨b1, 0, none⟩ = some (.int .i64 cur) ∧ w.cell? ⟨b2, 0, none⟩ = some (.int .i64 hr)
theorem CloAt.keep {w w' : World} {b0 b1 b2 n c : Nat} {p : Option Addr} {cur hr : Int} (h : CloAt w b0 b1 b2 p n c cur hr) (hB : Below w.heap.size w w') : CloAt w' b0 b1 b2 p n c cur hr :=
  ⟨cellK h.1 hB, cellK h.2.1 hB, cellK h.2.2 hB⟩
def CloC (w : World) (b0 b1 b2 b o : Nat) (v : Value) (cur hr C F P : Int) : Prop :=
  w.cell? ⟨b0, 0, none⟩ = some v ∧ w.cell? ⟨b1, 0, none⟩ = some (.int .i64 cur) ∧ w.cell? ⟨b2, 0, none⟩ = some (.int .i64 hr) ∧ w.cell? ⟨b, o, none⟩ = some (.int .i64 C) ∧ w.cell? ⟨b, o + 1, none⟩ = some (.int .i64 F) ∧ w.cell? ⟨b, o + 2, none⟩ = some (.int .i64 P)
theorem heldC {W wk w' : World} {b0 b1 b2 b o : Nat} {v : Value} {cur hr C F P : Int} (D0 : CloC W b0 b1 b2 b o v cur hr C F P) (h : Below W.heap.size W wk) (hB : Below wk.heap.size wk w') :
    w'.cell? ⟨b0, 0, none⟩ = some v ∧ w'.cell? ⟨b1, 0, none⟩ = some (.int .i64 cur) ∧ w'.cell? ⟨b2, 0, none⟩ = some (.int .i64 hr) ∧ w'.cell? ⟨b, o, none⟩ = some (.int .i64 C) ∧ w'.cell? ⟨b, o + 1, none⟩ = some (.int .i64 F) ∧ w'.cell? ⟨b, o + 2, none⟩ = some (.int .i64 P) ∧ Below W.heap.size W w' := by
  have h2 := h.trans (hB.mono h.size)
  obtain ⟨x0, x1, x2, x3, x4, x5⟩ := D0
  exact ⟨cellK x0 h2, cellK x1 h2, cellK x2 h2, cellK x3 h2, cellK x4 h2, cellK x5 h2, h2⟩
def BoolOf (b : Bool) (w : World) (e : Ending) (w' : World) : Prop := e = .returned (.bool b) ∧ Below w.heap.size w w'
set_option maxHeartbeats 2000000 in
theorem clo_any (b0 b1 b2 n c i : Nat) (cur hr : Int) (l : List Rt) (p : Option Addr) (w : World) (h : RatesAt w (.slice p n c) l) (hl : l.length ≤ 200) (hi : i < n) (hc : CloAt w b0 b1 b2 p n c cur hr) :
    Calls Try.prog 39 #[.int .i64 i, .pointer (some ⟨b0, 0, none⟩), .pointer (some ⟨b1, 0, none⟩), .pointer (some ⟨b2, 0, none⟩)] w (BoolOf (gtB l cur hr i) w) := by
  obtain ⟨p', c', he, -, hp⟩ := h
  cases he
  obtain ⟨b, off, rfl, ht⟩ := hp (by omega)
  obtain ⟨t0, t1, t2⟩ := ht i hi
  obtain ⟨c0, c1, c2⟩ := hc
  have hg : gtB l cur hr i = decide (0 < cmpR (rt l i).c (rt l i).f cur hr) := by
    unfold gtB; rw [decide_eq_decide, cmpR_pos]
  rw [hg]
  have bd := cmpR_bd (rt l i).c (rt l i).f cur hr
  have cR := Lib.hid (compare_any (rt l i).c (rt l i).f (rt l i).p cur hr)
  generalize (rt l i).c = C at *
  generalize (rt l i).f = F at *
  generalize (rt l i).p = P at *
  generalize cmpR C F cur hr = x at *
  have i1 : (0 : Int) ≤ (i : Int) := by omega
  have i2 : (i : Int) < (l.length : Int) := by omega
  clear hg ht
  generalize l.length = n at *
  have hD := Lib.hid (⟨c0, c1, c2, t0, t1, t2⟩ : CloC w b0 b1 b2 b (off + i * 3) (.slice (some ⟨b, off, none⟩) n c) cur hr C F P)
  go_enter Try.func39, Try.ntmps39
  go_wp2_with fail
  go_region_held3 (fun w' => w'.cell? ⟨b0, 0, none⟩ = some (.slice (some ⟨b, off, none⟩) n c) ∧ w'.cell? ⟨b1, 0, none⟩ = some (.int .i64 cur) ∧ w'.cell? ⟨b2, 0, none⟩ = some (.int .i64 hr) ∧ w'.cell? ⟨b, off + i * 3, none⟩ = some (.int .i64 C) ∧ w'.cell? ⟨b, off + i * 3 + 1, none⟩ = some (.int .i64 F) ∧ w'.cell? ⟨b, off + i * 3 + 2, none⟩ = some (.int .i64 P) ∧ Below w.heap.size w w')
    (first | exact ⟨c0, c1, c2, t0, t1, t2, below_drewN (Below.refl _ _) 1⟩ | exact heldC hD.out (by first | assumption | exact below_drewN (Below.refl _ _) 1) hBx)
    (first | (go_at_call 33; with_reducible refine (cR.out _).mono ?_; rintro e w' ⟨rfl, hBx⟩))
  all_goals (rename_i hh)
  all_goals (have B9 := Lib.hid hh.2.2.2.2.2.2)
  all_goals go_wp2_with fail
  all_goals go_ret
  all_goals exact ⟨rfl, B9.out⟩

/-- What sort.Search answers: the first index of which P is true. -/
def SrchOut (P : Nat → Bool) (n : Nat) (w : World) (e : Ending) (w' : World) : Prop := ∃ s : Nat, e = .returned (.int .i64 s) ∧ s ≤ n ∧ (∀ i, i < s → P i = false) ∧ (∀ i, s ≤ i → i < n → P i = true) ∧ Below w.heap.size w w'
set_option maxHeartbeats 2000000 in
theorem search_any (b0 b1 b2 n c : Nat) (cur hr : Int) (l : List Rt) (p : Option Addr) (w : World) (h : RatesAt w (.slice p n c) l) (hn : l.length = n) (hl : n ≤ 200) (hc : CloAt w b0 b1 b2 p n c cur hr)
    (hm : ∀ i j, i ≤ j → j < n → gtB l cur hr i = true → gtB l cur hr j = true) :
    Calls Try.prog 38 #[.int .i64 n, .func (.func 39) #[] #[.pointer (some ⟨b0, 0, none⟩), .pointer (some ⟨b1, 0, none⟩), .pointer (some ⟨b2, 0, none⟩)]] w (SrchOut (gtB l cur hr) n w) := by
  have hf := Lib.hid (fun (W : World) (i : Nat) (hi : i < n) (hB : Below w.heap.size w W) => clo_any b0 b1 b2 n c i cur hr l p W (h.below hB) (by omega) hi (hc.keep hB))
  have hm' := Lib.hid hm
  clear h hc hm hn
  generalize gtB l cur hr = P at *
  go_enter Try.func38, Try.ntmps38
  go_wp2_with fail
  go_loopw [5, 6] (fun i j wr => ∃ a b : Nat, i = .int .i64 a ∧ j = .int .i64 b ∧ a ≤ b ∧ b ≤ n ∧ Hid (∀ i, i < a → P i = false) ∧ Hid (∀ i, b ≤ i → i < n → P i = true) ∧ Hid (Below w.heap.size w wr)) (fun i j _ => (RowKit.intOf j).toNat - (RowKit.intOf i).toNat)
  case atStart => exact ⟨0, n, rfl, rfl, by omega, by omega, Lib.hid (fun i hi => by omega), Lib.hid (fun i h1 h2 => by omega), Lib.hid (Below.refl _ _)⟩
  case round =>
    obtain ⟨a, b, rfl, rfl, h1, h2, hA, hZ, hB⟩ := hrel
    by_cases hlt : a < b
    · have i1 : (a : Int) + (b : Int) ≤ 9223372036854775807 := by omega
      obtain ⟨m, hm1⟩ : ∃ m : Nat, (a + b) / 2 = m := ⟨_, rfl⟩
      have hm2 : ((a : Int) + (b : Int)) / 2 = (m : Int) := by omega
      have hm3 : a ≤ m ∧ m < b := by omega
      have hm4 := Lib.hid hm2
      have cl := Lib.hid (hf.out wr m (by omega) hB.out)
      clear hm1 hm2
      go_wp2_with fail
      rw [hm4.out]
      refine cl.out.mono ?_; rintro e w' ⟨rfl, hB2⟩
      have B2 := Lib.hid (hB.out.trans (hB2.mono hB.out.size))
      clear hB2 cl
      by_cases hP : P m = true
      · rw [hP]
        have hZ2 := Lib.hid (fun i (x1 : m ≤ i) (x2 : i < n) => hm'.out m i x1 x2 hP)
        clear hP
        go_wp2_with fail
        go_roundw
        case rel => exact ⟨a, m, rfl, rfl, by omega, by omega, hA, hZ2, B2⟩
        case measure => simp [RowKit.intOf]; omega
      · have hP2 : P m = false := by simpa using hP
        rw [hP2]
        have hA2 := Lib.hid (fun i (x1 : i < m + 1) => by
          cases hPi : P i
          · rfl
          · exact absurd (hm'.out i m (by omega) (by omega) hPi) hP : ∀ i, i < m + 1 → P i = false)
        clear hP hP2
        go_wp2_with fail
        go_roundw
        case rel => exact ⟨m + 1, b, by go_num, rfl, by omega, by omega, hA2, hZ, B2⟩
        case measure => simp [RowKit.intOf]; omega
    · obtain rfl : a = b := by omega
      clear hlt
      go_wp2_with fail
      go_ret
      exact ⟨a, rfl, h2, hA.out, hZ.out, hB.out⟩
end Go.Proofs.Ytcdfedkcefhdiaa.Exc
