/- The deck: Money, Cash. -/
import Derived.Test.YtcdfedkcefhdiaaDeckUp
import Derived.Test.YtcdfedkcefhdiaaDeckStore
import Derived.Test.YtcdfedkcefhdiaaExcCell
namespace Go.Proofs.Ytcdfedkcefhdiaa.Dk
open Go.RowKit Go.Lib Go.Proofs.Ytcdfedkcefhdiaa.Bas Go.Proofs.Ytcdfedkcefhdiaa.Spl Go.Proofs.Ytcdfedkcefhdiaa.Exc
set_option linter.unusedVariables false

theorem money_any (B d : Nat) (v : Value) (l : List Int) (w : World) (h : Deck B w d v l) :
    Calls Try.prog 37 #[.pointer (some ⟨d, 0, none⟩)] w (UptoOut 1073741824 B d v l w) := by
  have hD := Lib.hid h
  clear h
  go_enter Try.func37, Try.ntmps37
  go_wp2_with fail
  refine (upto_any B d v l _ 1073741824 (by omega) hD.out).mono ?_; rintro e w1 ⟨x, hx, rfl, hD1, hK1⟩
  have hfin : UptoOut 1073741824 B d v l w (.returned (.int .i64 x)) w1 := ⟨x, hx, rfl, hD1, hK1⟩
  have hfin' := Lib.hid hfin
  clear hfin hD1 hK1
  go_wp2_with fail
  go_ret
  exact hfin'.out

theorem cat_kept {d : Nat} {w w' : World} {b : Nat} {c a : Int} (h : CAt w b c a) (k : Kept d w w') (hb : b ≠ d) : CAt w' b c a := by
  obtain ⟨h0, h1, h2, h3, h4⟩ := h
  have e := k.block b h0 hb
  refine ⟨Nat.lt_of_lt_of_le h0 k.size, ?_, ?_, ?_, ?_⟩
  · rw [World.cell?_of_block (w := w) (a := ⟨b, 0, none⟩) e]; exact h1
  · rw [World.cell?_of_block (w := w) (a := ⟨b, 1, none⟩) e]; exact h2
  · rw [World.frozen?_of_block (w := w) (a := ⟨b, 0, none⟩) e]; exact h3
  · rw [World.frozen?_of_block (w := w) (a := ⟨b, 1, none⟩) e]; exact h4
theorem crow_kept {d B : Nat} {w w' : World} {v : Value} {L : List Cs} (h : CRow B w v L) (k : Kept d w w') (hd : v.ownBlock ≠ some d) : CRow B w' v L := by
  have hlt := World.ownsRow.lt h
  obtain ⟨h1, h2⟩ := h
  refine ⟨h1, ?_⟩
  rcases h2 with h2 | ⟨g, cap, cur, hv, hg, hh, r⟩
  · exact Or.inl h2
  · refine Or.inr ⟨g, cap, cur, hv, hg, ?_, r⟩
    subst hv
    rw [k.block g (hlt g rfl).2 (fun e => hd (by rw [← e]; rfl))]; exact hh
/-- An amount that the deck makes. -/
def okC (p : Cs) : Prop := 0 ≤ p.c ∧ p.c < 4 ∧ -1073741824 ≤ p.a ∧ p.a ≤ 1073741824
/-- A row of at most n amounts. -/
def CashOut (n B d : Nat) (v : Value) (l : List Int) (w : World) (e : Ending) (w' : World) : Prop :=
  ∃ u, ∃ L : List Cs, e = .returned u ∧ L.length ≤ n ∧ (∀ p ∈ L, okC p) ∧ CRow w.heap.size w' u L ∧ Deck B w' d v l ∧ Kept d w w'

set_option maxHeartbeats 4000000 in
theorem cash_any (B d : Nat) (v : Value) (l : List Int) (w : World) (n : Nat) (hn2 : n ≤ 1000) (h : Deck B w d v l) :
    Calls Try.prog 21 #[.pointer (some ⟨d, 0, none⟩), .int .i64 n] w (CashOut n B d v l w) := by
  have hD := Lib.hid h
  have hdl := h.lt
  have hdB := h.ge
  have hn1 : (n : Int) + 1 = ((n + 1 : Nat) : Int) := by omega
  have hn1' := Lib.hid hn1
  clear h hn1
  go_enter Try.func21, Try.ntmps21
  go_wp2_with fail
  rw [hn1'.out]
  refine (next_any B d v l _ (n + 1) (by omega) (by omega) hD.out).mono ?_; rintro e w1 ⟨k, hk, rfl, hD1, hK1⟩
  have hD1 := Lib.hid hD1
  have hK1 := Lib.hid hK1
  clear hD
  go_wp2_with fail
  go_loopw [5, 6] (fun x5 x6 wr => ∃ (L : List Cs) (j : Nat), x6 = .int .i64 j ∧ L.length + j ≤ n ∧ Hid (∀ p ∈ L, okC p) ∧ Hid (CRow w.heap.size wr x5 L) ∧ Hid (Deck B wr d v l) ∧ Hid (Kept d w wr)) (fun _ j _ => (RowKit.intOf j).toNat)
  case atStart => exact ⟨[], k, rfl, by simp; omega, Lib.hid (by simp), Lib.hid (crow_nil _ _), hD1, hK1⟩
  case round =>
    obtain ⟨L, j, rfl, hL1, hL3, hR, hD, hK⟩ := hrel
    by_cases hj : 0 < j
    · go_wp2_with fail
      refine (next_any B d v l _ 4 (by omega) (by omega) hD.out).mono ?_; rintro e w2 ⟨c, hc, rfl, hD2, hK2⟩
      have hbl := crow_block hR.out
      have R2 := Lib.hid (crow_kept hR.out hK2 (fun e => by have := (hbl d e).1; omega))
      have K2 := Lib.hid (hK.out.trans hK2)
      have D2 := Lib.hid hD2
      have hbl' := Lib.hid hbl
      clear hbl hD2 hK2 hD hR hK
      go_wp2_with fail
      refine (money_any B d v l _ D2.out).mono ?_; rintro e w3 ⟨z, hz, rfl, hD3, hK3⟩
      have R3 := Lib.hid (crow_kept R2.out hK3 (fun e => by have := (hbl'.out d e).1; omega))
      have K3 := Lib.hid (K2.out.trans hK3)
      have D3 := Lib.hid hD3
      clear hD3 hK3 D2 R2 K2
      have A0 := Lib.hid (CAt.new w3 (c : Int) (z : Int) 40)
      have R4 := Lib.hid (R3.out.alloc (.cells #[.int .i64 (c : Int), .int .i64 (z : Int)] 40))
      have K4 := Lib.hid (K3.out.alloc (.cells #[.int .i64 (c : Int), .int .i64 (z : Int)] 40))
      have D4 := Lib.hid (D3.out.below ((Below.refl _ _).alloc (Nat.le_refl _) (.cells #[.int .i64 (c : Int), .int .i64 (z : Int)] 40)))
      have hpd : w3.heap.size ≠ d := by have := D3.out.lt; omega
      have hpw : w.heap.size ≤ w3.heap.size := K3.out.size
      have hbp := Lib.hid (fun g (e : u5.ownBlock = some g) => (crow_block R3.out g e).2)
      clear D3 K3 R3
      go_wp2_with fail
      generalize w3.alloc (.cells #[.int .i64 (c : Int), .int .i64 (z : Int)] 40) = W4 at *
      generalize w3.heap.size = p at *
      refine (next_any B d v l _ 2 (by omega) (by omega) D4.out).mono ?_; rintro e w5 ⟨t, ht, rfl, hD5, hK5⟩
      have R5 := Lib.hid (crow_kept R4.out hK5 (fun e => by have := (hbl'.out d e).1; omega))
      have K5 := Lib.hid (K4.out.trans hK5)
      have D5 := Lib.hid hD5
      have A5 := Lib.hid (cat_kept A0.out hK5 hpd)
      clear hD5 hK5 A0 R4 K4 D4
      have ht2 : t = 0 ∨ t = 1 := by omega
      clear ht
      rcases ht2 with rfl | rfl
      · obtain ⟨_, k0, k1, _, _⟩ := A5.out
        go_wp2_with (at_builtin; refine wpList_append_cash rfl (.tmp 28) (.tmp 30) rfl w.heap.size u5 L rfl (R5.out.alloc (.cells #[.int .i64 (c : Int), .int .i64 (z : Int)] 40)) _ [⟨(c : Int), (z : Int)⟩] rfl (cash_one _ ⟨(c : Int), (z : Int)⟩) (by simp; omega) (by have := K5.out.size; simp; omega) ?_; intro v' w6 hown hgrow)
        have K6 := Lib.hid ((K5.out.alloc (.cells #[.int .i64 (c : Int), .int .i64 (z : Int)] 40)).grown hgrow (fun g hg => (hbl'.out g hg).1))
        have D6 := Lib.hid ((D5.out.below ((Below.refl _ _).alloc (Nat.le_refl _) (.cells #[.int .i64 (c : Int), .int .i64 (z : Int)] 40))).grown hgrow (fun g hg => by have := (hbl'.out g hg).1; omega))
        have R6 := Lib.hid hown
        clear hown hgrow
        go_roundw
        case rel => exact ⟨L ++ [⟨(c : Int), (z : Int)⟩], j - 1, by rw [show ((j - 1 : Nat) : Int) = (j : Int) - 1 by omega], by simp; omega, Lib.hid (by intro y hy; rcases List.mem_append.1 hy with h | h; exact hL3.out y h; rw [List.mem_singleton.1 h]; exact ⟨Int.natCast_nonneg _, (by show (c : Int) < 4; omega), (by show -1073741824 ≤ (z : Int); omega), (by show (z : Int) ≤ 1073741824; omega)⟩), R6, D6, K6⟩
        case measure => simp [RowKit.intOf]; omega
      · obtain ⟨_, k0, k1, f0, f1⟩ := A5.out
        have A6 := A5.out.set (-(z : Int))
        obtain ⟨_, e0, e1, _, _⟩ := A6
        have R55 := Lib.hid (crow_other (o := 1) R5.out (fun e => by have := hbp.out p e; omega) (.int .i64 (-(z : Int))))
        have D55 := Lib.hid (D5.out.oth (b := p) hpd (by omega) 1 (.int .i64 (-(z : Int))))
        have K55 := Lib.hid (K5.out.setN (b := p) hpw 1 (.int .i64 (-(z : Int))))
        have hone := cash_one (w5.setCell ⟨p, 1, none⟩ (.int .i64 (-(z : Int)))) ⟨(c : Int), -(z : Int)⟩
        rw [World.size_setCell] at hone
        have ho2 := Lib.hid hone
        clear A5 R5 D5 K5 hone
        go_wp2_with (at_builtin; refine wpList_append_cash rfl (.tmp 28) (.tmp 30) rfl w.heap.size u5 L rfl (R55.out.alloc (.cells #[.int .i64 (c : Int), .int .i64 (-(z : Int))] 40)) _ [⟨(c : Int), (-(z : Int))⟩] rfl ho2.out (by simp; omega) (by have := K55.out.size; simp; omega) ?_; intro v' w6 hown hgrow)
        have K6 := Lib.hid ((K55.out.alloc (.cells #[.int .i64 (c : Int), .int .i64 (-(z : Int))] 40)).grown hgrow (fun g hg => (hbl'.out g hg).1))
        have D6 := Lib.hid ((D55.out.below ((Below.refl _ _).alloc (Nat.le_refl _) (.cells #[.int .i64 (c : Int), .int .i64 (-(z : Int))] 40))).grown hgrow (fun g hg => by have := (hbl'.out g hg).1; omega))
        have R6 := Lib.hid hown
        clear hown hgrow
        go_roundw
        case rel => exact ⟨L ++ [⟨(c : Int), (-(z : Int))⟩], j - 1, by rw [show ((j - 1 : Nat) : Int) = (j : Int) - 1 by omega], by simp; omega, Lib.hid (by intro y hy; rcases List.mem_append.1 hy with h | h; exact hL3.out y h; rw [List.mem_singleton.1 h]; exact ⟨Int.natCast_nonneg _, (by show (c : Int) < 4; omega), (by show -1073741824 ≤ (-(z : Int)); omega), (by show (-(z : Int)) ≤ 1073741824; omega)⟩), R6, D6, K6⟩
        case measure => simp [RowKit.intOf]; omega
    · obtain rfl : j = 0 := by omega
      have hfin : CashOut n B d v l w (.returned u5) wr := ⟨u5, L, rfl, by omega, hL3.out, hR.out, hD.out, hK.out⟩
      have hfin' := Lib.hid hfin
      clear hfin
      go_wp2_with fail
      go_ret
      exact hfin'.out
end Go.Proofs.Ytcdfedkcefhdiaa.Dk
