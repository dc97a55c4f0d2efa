/- The reference's SameTokens, where the tokens are the same; the deck's Left. -/
import Derived.Test.YtaengcbjpniclaaGreatDoorLxBack
import Derived.Test.YtaengcbjpniclaaGreatDoorLxWd
namespace Go.Proofs.YtaengcbjpniclaaGreatDoor.Lx
open Go.RowKit Go.Lib Go.Proofs.YtaengcbjpniclaaGreatDoor.Bas Go.Proofs.YtaengcbjpniclaaGreatDoor.Cal Go.Proofs.YtaengcbjpniclaaGreatDoor.Spl Go.Proofs.YtaengcbjpniclaaGreatDoor.Dk
set_option linter.unusedVariables false

theorem Same.len {A B : List Tk} (h : Same A B) : A.length = B.length := by
  have := congrArg List.length h
  simpa using this
theorem Same.tk {A B : List Tk} (h : Same A B) (i : Nat) (hi : i < A.length) : (tk A i).k = (tk B i).k ∧ (tk A i).t = (tk B i).t ∧ (tk A i).n = (tk B i).n := by
  have hb : i < B.length := by rw [← h.len]; exact hi
  have := congrArg (fun l => l[i]?) h
  simp only [List.getElem?_map, List.getElem?_eq_getElem hi, List.getElem?_eq_getElem hb, Option.map_some, Option.some.injEq, Prod.mk.injEq] at this
  rw [tk_at A i hi, tk_at B i hb]
  exact this
/-- Are numbers left? -/
theorem left_any (B d : Nat) (v : Value) (l : List Int) (w : World) (h : Deck B w d v l) :
    Calls Tryz.prog 20 #[.pointer (some ⟨d, 0, none⟩)] w fun e w' => (∃ b, e = .returned (.bool b)) ∧ Dr w w' := by
  obtain ⟨k, hk, c1⟩ := h.c1
  have c0 := h.c0
  obtain ⟨p, c, rfl, _⟩ := h.ints
  have hlen := h.len
  clear h
  go_enter Tryz.func20, Tryz.ntmps20
  go_wp2_with fail
  go_quiet (fail)
  go_wp2_with fail
  go_ret
  exact ⟨⟨_, rfl⟩, ⟨_, rfl⟩⟩
end Go.Proofs.YtaengcbjpniclaaGreatDoor.Lx
