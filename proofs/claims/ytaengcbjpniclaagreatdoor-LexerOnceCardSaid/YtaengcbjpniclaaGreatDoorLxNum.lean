/- Numerals: what Atoi answers at the digits of a token (mathematics). -/
import Derived.Test.YtaengcbjpniclaaGreatDoorLxMath
namespace Go.Proofs.YtaengcbjpniclaaGreatDoor.Lx
open Go.RowKit Go.Lib Go.Proofs.YtaengcbjpniclaaGreatDoor.Bas Go.Proofs.YtaengcbjpniclaaGreatDoor.Cal
set_option linter.unusedVariables false

theorem dgt_iff (c : UInt8) : dgt c = true ↔ 48 ≤ c.toNat ∧ c.toNat ≤ 57 := by unfold dgt; simp
theorem dv_cons (c : UInt8) (r : List UInt8) (a : Nat) : dv a (c :: r) = dv (a * 10 + (c.toNat - 48)) r := by unfold dv; rw [List.foldl_cons]
theorem dv_ge (l : List UInt8) : ∀ a : Nat, a ≤ dv a l := by
  induction l with
  | nil => intro a; unfold dv; rw [List.foldl_nil]; exact Nat.le_refl _
  | cons c r ih =>
    intro a
    have := ih (a * 10 + (c.toNat - 48))
    rw [dv_cons]
    omega
theorem parse_dv (l : List UInt8) : ∀ a : Nat, (∀ c ∈ l, dgt c = true) → a < 18446744073709551616 → parseUint10 a l = if dv a l < 18446744073709551616 then .ok (dv a l) else .range := by
  induction l with
  | nil => intro a _ h; rw [parseUint10, show dv a [] = a by unfold dv; rw [List.foldl_nil], if_pos h]
  | cons c r ih =>
    intro a hd h
    have hc := (dgt_iff c).1 (hd c (by simp))
    have hg := dv_ge r (a * 10 + (c.toNat - 48))
    rw [parseUint10, if_pos hc, dv_cons]
    by_cases h1 : 1844674407370955162 ≤ a
    · rw [if_pos h1, if_neg (by omega)]
    · rw [if_neg h1]
      by_cases h2 : 18446744073709551616 ≤ a * 10 + (c.toNat - 48)
      · rw [if_pos h2, if_neg (by omega)]
      · rw [if_neg h2]
        exact ih _ (fun x hx => hd x (by simp [hx])) (by omega)
/-- Atoi at digits. -/
theorem atoi_plain (d : List UInt8) (h0 : d ≠ []) (hd : ∀ c ∈ d, dgt c = true) :
    (dv 0 d ≤ 17592186044416 → atoiAll d = .ok (dv 0 d : Int)) ∧ (17592186044416 < dv 0 d → atoiAll d = .range ∨ ∃ u : Int, atoiAll d = .ok u ∧ 17592186044416 < u) := by
  obtain ⟨c, r, rfl⟩ : ∃ c r, d = c :: r := by cases d with | nil => exact absurd rfl h0 | cons c r => exact ⟨c, r, rfl⟩
  have hc := (dgt_iff c).1 (hd c (by simp))
  have e : atoiAll (c :: r) = match parseMag (c :: r) with | .ok u => if 9223372036854775808 ≤ u then .range else .ok (u : Int) | x => match x with | .range => .range | _ => atoiAll (c :: r) := by
    have n1 : ¬ (c.toNat = 45) := by omega
    have n2 : ¬ (c.toNat = 43 ∨ c.toNat = 45) := by omega
    cases hp : parseMag (c :: r) with
    | ok u =>
      simp only [atoiAll, if_neg n2, hp]
      simp [n1]
    | range => simp only [atoiAll, if_neg n2, hp]
    | _ => rfl
  have hm : parseMag (c :: r) = if dv 0 (c :: r) < 18446744073709551616 then .ok (dv 0 (c :: r)) else .range := by
    unfold parseMag
    rw [if_neg (by simp)]
    exact parse_dv _ 0 hd (by omega)
  rw [e, hm]
  generalize dv 0 (c :: r) = v
  constructor
  · intro h
    rw [if_pos (by omega)]
    show (if 9223372036854775808 ≤ v then NumEnd.range else NumEnd.ok (v : Int)) = _
    rw [if_neg (by omega)]
  · intro h
    by_cases h1 : v < 18446744073709551616
    · rw [if_pos h1]
      show (if 9223372036854775808 ≤ v then NumEnd.range else NumEnd.ok (v : Int)) = _ ∨ ∃ u : Int, (if 9223372036854775808 ≤ v then NumEnd.range else NumEnd.ok (v : Int)) = _ ∧ _
      by_cases h2 : 9223372036854775808 ≤ v
      · left; rw [if_pos h2]
      · right; exact ⟨v, by rw [if_neg h2], by omega⟩
    · rw [if_neg h1]; left; rfl
/-- Atoi at digits behind a hyphen. -/
theorem atoi_minus (d : List UInt8) (h0 : d ≠ []) (hd : ∀ c ∈ d, dgt c = true) :
    (dv 0 d ≤ 17592186044416 → atoiAll (45 :: d) = .ok (-(dv 0 d : Int))) ∧ (17592186044416 < dv 0 d → atoiAll (45 :: d) = .range ∨ ∃ u : Int, atoiAll (45 :: d) = .ok u ∧ u < -17592186044416) := by
  have e : atoiAll (45 :: d) = match parseMag d with | .ok u => if 9223372036854775808 < u then .range else .ok (-(u : Int)) | x => match x with | .range => .range | _ => atoiAll (45 :: d) := by
    cases hp : parseMag d with
    | ok u => simp [atoiAll, hp]
    | range => simp [atoiAll, hp]
    | _ => rfl
  have hm : parseMag d = if dv 0 d < 18446744073709551616 then .ok (dv 0 d) else .range := by
    unfold parseMag
    rw [if_neg h0]
    exact parse_dv _ 0 hd (by omega)
  rw [e, hm]
  generalize dv 0 d = v
  constructor
  · intro h
    rw [if_pos (by omega)]
    show (if 9223372036854775808 < v then NumEnd.range else NumEnd.ok (-(v : Int))) = _
    rw [if_neg (by omega)]
  · intro h
    by_cases h1 : v < 18446744073709551616
    · rw [if_pos h1]
      show (if 9223372036854775808 < v then NumEnd.range else NumEnd.ok (-(v : Int))) = _ ∨ ∃ u : Int, (if 9223372036854775808 < v then NumEnd.range else NumEnd.ok (-(v : Int))) = _ ∧ _
      by_cases h2 : 9223372036854775808 < v
      · left; rw [if_pos h2]
      · right; exact ⟨-(v : Int), by rw [if_neg h2], by omega⟩
    · rw [if_neg h1]; left; rfl
/-- The numeral of a token, and its digits. -/
theorem num_parts (l : List UInt8) (h : numSz l ≠ sgn l) : ∃ d, d ≠ [] ∧ (∀ c ∈ d, dgt c = true) ∧ d = (l.take (numSz l)).drop (sgn l) ∧ l.take (numSz l) = (if sgn l = 1 then 45 :: d else d) ∧ d.length = spn dgt (l.drop (sgn l)) := by
  have hs1 : sgn l ≤ 1 := by unfold sgn; split <;> omega
  have a := spn_le dgt (l.drop (sgn l))
  rw [List.length_drop] at a
  have hz : numSz l = sgn l + spn dgt (l.drop (sgn l)) := rfl
  have hle : numSz l ≤ l.length := by
    by_cases e : sgn l ≤ l.length
    · omega
    · have h2 : spn dgt (l.drop (sgn l)) = 0 := by omega
      omega
  have hlen : ((l.take (numSz l)).drop (sgn l)).length = spn dgt (l.drop (sgn l)) := by rw [List.length_drop, List.length_take]; omega
  refine ⟨(l.take (numSz l)).drop (sgn l), ?_, ?_, rfl, ?_, hlen⟩
  · intro e
    rw [e] at hlen; simp at hlen; omega
  · intro c hc
    obtain ⟨j, hj, rfl⟩ := List.getElem_of_mem hc
    have := spn_in dgt (l.drop (sgn l)) j (by omega)
    rw [List.getD_eq_getElem?_getD, List.getElem?_drop, List.getElem?_eq_getElem (by omega)] at this
    rw [List.getElem_drop, List.getElem_take]
    simpa using this
  · by_cases e : sgn l = 1
    · rw [if_pos e, e]
      cases l with
      | nil => simp [sgn] at e
      | cons c r =>
        have hc : c.toNat = 45 := by
          by_cases h45 : c.toNat = 45
          · exact h45
          · simp [sgn, h45] at e
        have hc2 : c = 45 := UInt8.toNat_inj.1 (by rw [hc]; rfl)
        have hpos : numSz (c :: r) = (numSz (c :: r) - 1) + 1 := by omega
        rw [hpos, List.take_succ_cons, hc2]
        simp
    · have e0 : sgn l = 0 := by omega
      rw [if_neg e, e0]
      simp
end Go.Proofs.YtaengcbjpniclaaGreatDoor.Lx
