/- The reference's SameTokens, where the tokens are the same; the deck's Left. -/
import Derived.Test.YtaengcbjpniclaaDoorLxBack
import Derived.Test.YtaengcbjpniclaaDoorLxWd
namespace Go.Proofs.YtaengcbjpniclaaDoor.Lx
open Go.RowKit Go.Lib Go.Proofs.YtaengcbjpniclaaDoor.Bas Go.Proofs.YtaengcbjpniclaaDoor.Cal Go.Proofs.YtaengcbjpniclaaDoor.Spl Go.Proofs.YtaengcbjpniclaaDoor.Dk
set_option linter.unusedVariables false

theorem Same.len {A B : List Tk} (h : Same A B) : A.length = B.length := by
  have := congrArg List.length h
  simpa using this
theorem Same.tk {A B : List Tk} (h : Same A B) (i : Nat) (hi : i < A.length) : (tk A i).k = (tk B i).k ∧ (tk A i).t = (tk B i).t ∧ (tk A i).n = (tk B i).n := by
  have hb : i < B.length := by rw [← h.len]; exact hi
  have := congrArg (fun l => l[i]?) h
  simp only [List.getElem?_map, List.getElem?_eq_getElem hi, List.getElem?_eq_getElem hb, Option.map_some, Option.some.injEq, Prod.mk.injEq] at this
  rw [tk_at A i hi, tk_at B i hb]
  exact this
set_option maxRecDepth 8000 in
set_option maxHeartbeats 16000000 in
theorem same_any (va vb : Value) (A B : List Tk) (w : World) (hA : TksAt w va A) (hB : TksAt w vb B) (h : Same A B) (hl : A.length ≤ 1000000) :
    Calls Tryd.prog 17 #[va, vb, .bool false] w (BoolDr true w) := by
  obtain ⟨n, hn⟩ : ∃ n, A.length = n := ⟨_, rfl⟩
  have hnb : B.length = n := by rw [← h.len]; exact hn
  have hT := Lib.hid h.tk
  obtain ⟨p1, c1, rfl, _, hp1⟩ := hA
  obtain ⟨p2, c2, rfl, _, hp2⟩ := hB
  rw [hn] at hp1 hT ⊢
  rw [hnb] at hp2 ⊢
  rw [hn] at hl
  have hp1' := Lib.hid hp1
  have hp2' := Lib.hid hp2
  clear hp1 hp2 hn hnb h
  go_enter Tryd.func17, Tryd.ntmps17
  go_wp2_with fail
  go_loopw [7] (fun i wr => ∃ k : Nat, k ≤ n ∧ i = .int .i64 k ∧ Hid (Dr w wr)) (fun i _ => n - (RowKit.intOf i).toNat)
  case atStart => exact ⟨0, Nat.zero_le _, rfl, Lib.hid (Dr.refl w)⟩
  case round =>
    obtain ⟨k, hk, rfl, hD⟩ := hrel
    by_cases hlt : k < n
    · obtain ⟨b1, o1, rfl, hc1⟩ := hp1'.out (by omega)
      obtain ⟨b2, o2, rfl, hc2⟩ := hp2'.out (by omega)
      obtain ⟨nd, hnd⟩ := hD.out
      subst hnd
      obtain ⟨x0, x1, x2, x3⟩ := hc1 k hlt
      obtain ⟨y0, y1, y2, y3⟩ := hc2 k hlt
      obtain ⟨e0, e1, e2⟩ := hT.out k hlt
      rw [← e0] at y0
      rw [← e1] at y1
      rw [← e2] at y2
      clear hc1 hc2 e0 e1 e2 hT
      generalize (tk A k).k = k1 at *
      generalize (tk A k).t = t1 at *
      generalize (tk A k).n = n1 at *
      generalize (tk A k).p = p1 at *
      generalize (tk B k).p = p2 at *
      generalize tx t1 = t2 at *
      have x0' : w.cell? ⟨b1, o1 + k * 4, none⟩ = some (.int .i64 k1) := x0
      go_wp2_with fail
      go_quiet (fail)
      go_wp2_with fail
      go_roundw
      case rel => exact ⟨k + 1, by omega, by go_num, Lib.hid ⟨_, rfl⟩⟩
      case measure => simp [RowKit.intOf]; omega
    · obtain rfl : k = n := by omega
      go_wp2_with fail
      go_ret
      exact ⟨rfl, hD.out⟩
/-- Are numbers left? -/
theorem left_any (B d : Nat) (v : Value) (l : List Int) (w : World) (h : Deck B w d v l) :
    Calls Tryd.prog 22 #[.pointer (some ⟨d, 0, none⟩)] w fun e w' => (∃ b, e = .returned (.bool b)) ∧ Dr w w' := by
  obtain ⟨k, hk, c1⟩ := h.c1
  have c0 := h.c0
  obtain ⟨p, c, rfl, _⟩ := h.ints
  have hlen := h.len
  clear h
  go_enter Tryd.func22, Tryd.ntmps22
  go_wp2_with fail
  go_quiet (fail)
  go_wp2_with fail
  go_ret
  exact ⟨⟨_, rfl⟩, ⟨_, rfl⟩⟩
end Go.Proofs.YtaengcbjpniclaaDoor.Lx
