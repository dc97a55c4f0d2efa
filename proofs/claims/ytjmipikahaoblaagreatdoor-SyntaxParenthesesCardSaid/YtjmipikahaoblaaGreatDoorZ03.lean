/- Tokens of a text: what Scan and Join are specified to return (mathematics of lists of bytes). What a call finds in memory: the table of the months' lengths, that of the powers of ten, the error of a range. Numerals: what Atoi answers at the digits of a token (mathematics). Package lexer: the token at the beginning of a text. Package lexer: a number at the beginning of a text. Package lexer: an hou -/
import Derived.Test.YtjmipikahaoblaaGreatDoorZ02
import Derived.Test.YtjmipikahaoblaaGreatDoorZ00
import Derived.Lib.ItoaNum
import Derived.Lib.AtoiAll
import Derived.Test.YtjmipikahaoblaaGreatDoorZ01
import Derived.Lib.AppendIntMem
import Derived.Deep.AppendLies
namespace Go.Proofs.YtjmipikahaoblaaGreatDoor.Lx
open Go.RowKit Go.Lib Go.Proofs.YtjmipikahaoblaaGreatDoor.Bas Go.Proofs.YtjmipikahaoblaaGreatDoor.Cal
set_option linter.unusedVariables false

structure Tk where
  k : Int
  t : List UInt8
  n : Int
  p : Int
def z0 : Tk := ⟨0, [], 0, 0⟩
/-- The number that digits are written for. -/
def dv (acc : Nat) (l : List UInt8) : Nat := l.foldl (fun a c => a * 10 + (c.toNat - 48)) acc
def sgn (l : List UInt8) : Nat := if (l.getD 0 0).toNat = 45 then 1 else 0
def numSz (l : List UInt8) : Nat := sgn l + spn dgt (l.drop (sgn l))
def numV (l : List UInt8) : Tk × Nat × Int :=
  if numSz l = sgn l ∨ 1 < numSz l ∧ (l.getD (sgn l) 0).toNat = 48 then (z0, 0, 5)
  else if 17592186044416 < dv 0 ((l.take (numSz l)).drop (sgn l)) then (z0, 0, 1)
  else (⟨2, [], if sgn l = 1 then -(dv 0 ((l.take (numSz l)).drop (sgn l)) : Int) else dv 0 ((l.take (numSz l)).drop (sgn l)), 0⟩, numSz l, 0)
def hrSz (l : List UInt8) : Nat := 1 + spn inH (l.drop 1)
def hrV (l : List UInt8) : Tk × Nat × Int :=
  if (parseV (tx ((l.take (hrSz l)).drop 1))).2 ≠ 0 then (z0, 0, (parseV (tx ((l.take (hrSz l)).drop 1))).2)
  else (⟨3, [], (parseV (tx ((l.take (hrSz l)).drop 1))).1, 0⟩, hrSz l, 0)
def wdV (l : List UInt8) : Tk × Nat × Int := if wordB (l.take (spn inW l)) = true then (⟨1, l.take (spn inW l), 0, 0⟩, spn inW l, 0) else (z0, 0, 6)
/-- The token at the beginning of a text that is not empty, its number of bytes and its error. -/
def firstV (l : List UInt8) : Tk × Nat × Int :=
  if ltr (l.getD 0 0) = true then wdV l
  else if dgt (l.getD 0 0) = true ∨ (l.getD 0 0).toNat = 45 then numV l
  else if (l.getD 0 0).toNat = 64 then hrV l
  else if markB (l.take 1) = true then (⟨4, l.take 1, 0, 0⟩, 1, 0)
  else (z0, 0, 5)
/-- Does what follows forbid a number? -/
def stp (l : List UInt8) : Bool := decide (0 < l.length) && (ltr (l.getD 0 0) || decide ((l.getD 0 0).toNat = 45))
def scanF : Nat → List UInt8 → Nat → List Tk → List Tk × Int × Int
  | 0, _, _, acc => (acc, 0, 0)
  | f + 1, l, at', acc =>
    if l = [] then (acc, 0, 0)
    else if (l.getD 0 0).toNat = 32 ∨ (l.getD 0 0).toNat = 10 then scanF f (l.drop 1) (at' + 1) acc
    else if (l.getD 0 0).toNat = 35 then scanF f (l.drop (spn inC l)) (at' + spn inC l) acc
    else if (firstV l).2.2 ≠ 0 then ([], at', (firstV l).2.2)
    else if acc.length = 4000 then ([], at', 4)
    else if (firstV l).1.k = 2 ∧ stp (l.drop (firstV l).2.1) = true then ([], at' + (firstV l).2.1, 5)
    else scanF f (l.drop (firstV l).2.1) (at' + (firstV l).2.1) (acc ++ [{ (firstV l).1 with p := at' }])

theorem first_size (l : List UInt8) (hl : l ≠ []) (h : (firstV l).2.2 = 0) : 1 ≤ (firstV l).2.1 ∧ (firstV l).2.1 ≤ l.length := by
  have h1 : 1 ≤ l.length := by cases l with | nil => exact absurd rfl hl | cons c r => simp
  revert h
  unfold firstV
  split
  · unfold wdV
    split
    · rename_i hw
      intro _
      have := spn_le inW l
      refine ⟨?_, this⟩
      have h2 := (of_decide_eq_true hw).1
      rw [List.length_take] at h2
      show 1 ≤ spn inW l
      omega
    · intro h; cases h
  · split
    · unfold numV
      split
      · intro h; cases h
      · rename_i hn
        split
        · intro h; cases h
        · intro _
          have a := spn_le dgt (l.drop (sgn l))
          rw [List.length_drop] at a
          have b : sgn l ≤ 1 := by unfold sgn; split <;> omega
          have c : numSz l = sgn l + spn dgt (l.drop (sgn l)) := rfl
          show 1 ≤ numSz l ∧ numSz l ≤ l.length
          omega
    · split
      · unfold hrV
        split
        · rename_i hh; intro h; exact absurd h hh
        · intro _
          have a := spn_le inH (l.drop 1)
          rw [List.length_drop] at a
          have c : hrSz l = 1 + spn inH (l.drop 1) := rfl
          show 1 ≤ hrSz l ∧ hrSz l ≤ l.length
          omega
      · split
        · intro _; exact ⟨Nat.le_refl _, h1⟩
        · intro h; cases h
theorem spnC_pos (l : List UInt8) (hl : l ≠ []) (h : (l.getD 0 0).toNat = 35) : 1 ≤ spn inC l := by
  cases l with
  | nil => exact absurd rfl hl
  | cons c r =>
    have hc : inC c = true := by
      have : c.toNat = 35 := by simpa using h
      unfold inC; simp; omega
    rw [spn, if_pos hc]; omega
theorem scanF_fuel : ∀ (f g : Nat) (l : List UInt8) (at' : Nat) (acc : List Tk), l.length ≤ f → l.length ≤ g → scanF f l at' acc = scanF g l at' acc := by
  intro f
  induction f with
  | zero =>
    intro g l at' acc hf hg
    have : l = [] := List.length_eq_zero_iff.1 (by omega)
    subst this
    cases g with
    | zero => rfl
    | succ g => rw [scanF, scanF, if_pos rfl]
  | succ f ih =>
    intro g l at' acc hf hg
    by_cases hl : l = []
    · subst hl
      cases g with
      | zero => rw [scanF, scanF, if_pos rfl]
      | succ g => rw [scanF, scanF, if_pos rfl, if_pos rfl]
    · have h1 : 1 ≤ l.length := by cases l with | nil => exact absurd rfl hl | cons c r => simp
      cases g with
      | zero => omega
      | succ g =>
        rw [scanF, scanF, if_neg hl, if_neg hl]
        split
        · exact ih g _ _ _ (by rw [List.length_drop]; omega) (by rw [List.length_drop]; omega)
        · split
          · rename_i hc
            have := spnC_pos l hl hc
            exact ih g _ _ _ (by rw [List.length_drop]; omega) (by rw [List.length_drop]; omega)
          · split
            · rfl
            · rename_i he
              have := first_size l hl (by simpa using he)
              split
              · rfl
              · split
                · rfl
                · exact ih g _ _ _ (by rw [List.length_drop]; omega) (by rw [List.length_drop]; omega)
/-- What is scanned from here on. -/
def scanL (l : List UInt8) (at' : Nat) (acc : List Tk) : List Tk × Int × Int := scanF l.length l at' acc
theorem scanL_nil (at' : Nat) (acc : List Tk) : scanL [] at' acc = (acc, 0, 0) := rfl
theorem scanL_step (l : List UInt8) (at' : Nat) (acc : List Tk) (hl : l ≠ []) : scanL l at' acc =
    if (l.getD 0 0).toNat = 32 ∨ (l.getD 0 0).toNat = 10 then scanL (l.drop 1) (at' + 1) acc
    else if (l.getD 0 0).toNat = 35 then scanL (l.drop (spn inC l)) (at' + spn inC l) acc
    else if (firstV l).2.2 ≠ 0 then ([], at', (firstV l).2.2)
    else if acc.length = 4000 then ([], at', 4)
    else if (firstV l).1.k = 2 ∧ stp (l.drop (firstV l).2.1) = true then ([], at' + (firstV l).2.1, 5)
    else scanL (l.drop (firstV l).2.1) (at' + (firstV l).2.1) (acc ++ [{ (firstV l).1 with p := at' }]) := by
  have h1 : 1 ≤ l.length := by cases l with | nil => exact absurd rfl hl | cons c r => simp
  rw [scanL, scanF_fuel l.length (l.length + 1) l at' acc (Nat.le_refl _) (by omega), scanF, if_neg hl]
  split
  · rw [scanL, scanF_fuel]
    · rw [List.length_drop]; omega
    · exact Nat.le_refl _
  · split
    · rw [scanL, scanF_fuel]
      · rw [List.length_drop]; omega
      · exact Nat.le_refl _
    · split
      · rfl
      · split
        · rfl
        · split
          · rfl
          · rw [scanL, scanF_fuel]
            · rw [List.length_drop]; omega
            · exact Nat.le_refl _
def scanV (l : List UInt8) : List Tk × Int × Int := if 16384 < l.length then ([], 0, 4) else scanL l 0 []

/-- A token's text, and its error. -/
def wr (t : Tk) : List UInt8 := if t.k = 2 then itoa t.n else if t.k = 3 then 64 :: bl (fmtT t.n) else t.t
def wrE (t : Tk) : Int :=
  if t.k < 1 ∨ 4 < t.k then 11
  else if t.k = 1 ∨ t.k = 4 then (if t.n ≠ 0 then 20 else if t.k = 1 then (if wordB t.t = true then 0 else 6) else if markB t.t = true then 0 else 5)
  else if t.t ≠ [] then 20
  else if t.k = 3 then (if 0 ≤ t.n ∧ t.n ≤ 876599 then 0 else 1)
  else if -17592186044416 ≤ t.n ∧ t.n ≤ 17592186044416 then 0 else 1
def joinE : List Tk → Int
  | [] => 0
  | t :: r => if wrE t ≠ 0 then wrE t else joinE r
/-- Is there a blank between them? -/
def gap (last s : List UInt8) : List UInt8 := if last ≠ [40] ∧ (s = [40] ∨ markB s = false) then [32] else []
def joinT (last : List UInt8) : List Tk → List UInt8
  | [] => []
  | t :: r => gap last (wr t) ++ (wr t ++ joinT (wr t) r)
def joinV (l : List Tk) : List UInt8 × Int :=
  if 4000 < l.length then ([], 4) else if joinE l ≠ 0 then ([], joinE l) else if 16384 < (joinT [40] l).length then ([], 4) else (joinT [40] l, 0)
end Go.Proofs.YtjmipikahaoblaaGreatDoor.Lx
namespace Go.Proofs.YtjmipikahaoblaaGreatDoor.Lx
open Go.RowKit Go.Lib Go.Proofs.YtjmipikahaoblaaGreatDoor.Bas Go.Proofs.YtjmipikahaoblaaGreatDoor.Cal
set_option linter.unusedVariables false

def Env (w : World) : Prop := Tab w ∧ Lib.TabIs Tryz.prog w powName .u64 Lib.pow10Tab ∧ ∃ tp p, w.var? Tryz.prog "strconv.ErrRange" = some #[.iface tp p]
theorem var_keep {w w' : World} {nm : String} {cs : Array Value} (h : w.var? Tryz.prog nm = some cs) (hb : Below w.heap.size w w') : w'.var? Tryz.prog nm = some cs := by
  unfold World.var? at h ⊢
  cases hg : Tryz.prog.globalNamed nm with
  | none => rw [hg] at h; simp at h
  | some g =>
    rw [hg] at h
    simp only [Option.bind_some] at h ⊢
    have hlt : g < w.heap.size := by
      by_cases e : g < w.heap.size
      · exact e
      · rw [Array.getElem?_eq_none (by omega)] at h; simp at h
    rw [hb.block g hlt]
    exact h
theorem Env.keep {w w' : World} (h : Env w) (hb : Below w.heap.size w w') : Env w' := by
  obtain ⟨h1, h2, tp, p, h3⟩ := h
  exact ⟨h1.keep hb, var_keep h2 hb, tp, p, var_keep h3 hb⟩
theorem Env.drewN {w : World} (h : Env w) (n : Nat) : Env (w.drewN n) := h
theorem Env.drew {w : World} (h : Env w) : Env w.drew := h
theorem Env.alloc {w : World} (h : Env w) (o : Obj) : Env (w.alloc o) := h.keep ((Below.refl _ _).alloc (Nat.le_refl _) o)

/-- A token as a value. -/
def tkV (t : Tk) : Value := .agg #[.int .i64 t.k, .string (tx t.t), .int .i64 t.n, .int .i64 t.p]
/-- A token, a number of bytes, an error. -/
def TokOut (x : Tk × Nat × Int) (w : World) (e : Ending) (w' : World) : Prop := e = .returned (.tuple #[tkV x.1, .int .i64 (x.2.1 : Int), .int .i64 x.2.2]) ∧ Below w.heap.size w w'
theorem tx_extract (s : ByteArray) (a b : Nat) (h : b ≤ s.size) : s.extract a b = tx (((bl s).take b).drop a) := by
  rw [← bl_extract s a b h, tx_bl]
theorem bl_take (s : ByteArray) (b : Nat) (h : b ≤ s.size) : bl (s.extract 0 b) = (bl s).take b := by rw [bl_extract s 0 b h, List.drop_zero]
theorem bl_drop (s : ByteArray) (a : Nat) : bl (s.extract a s.size) = (bl s).drop a := by
  rw [bl_extract s a s.size (Nat.le_refl _), List.take_of_length_le (by rw [bl_size]; omega)]
theorem z0_nil : tx z0.t = { data := #[] } := rfl
end Go.Proofs.YtjmipikahaoblaaGreatDoor.Lx
namespace Go.Proofs.YtjmipikahaoblaaGreatDoor.Lx
open Go.RowKit Go.Lib Go.Proofs.YtjmipikahaoblaaGreatDoor.Bas Go.Proofs.YtjmipikahaoblaaGreatDoor.Cal
set_option linter.unusedVariables false

theorem dgt_iff (c : UInt8) : dgt c = true ↔ 48 ≤ c.toNat ∧ c.toNat ≤ 57 := by unfold dgt; simp
theorem dv_cons (c : UInt8) (r : List UInt8) (a : Nat) : dv a (c :: r) = dv (a * 10 + (c.toNat - 48)) r := by unfold dv; rw [List.foldl_cons]
theorem dv_ge (l : List UInt8) : ∀ a : Nat, a ≤ dv a l := by
  induction l with
  | nil => intro a; unfold dv; rw [List.foldl_nil]; exact Nat.le_refl _
  | cons c r ih =>
    intro a
    have := ih (a * 10 + (c.toNat - 48))
    rw [dv_cons]
    omega
theorem parse_dv (l : List UInt8) : ∀ a : Nat, (∀ c ∈ l, dgt c = true) → a < 18446744073709551616 → parseUint10 a l = if dv a l < 18446744073709551616 then .ok (dv a l) else .range := by
  induction l with
  | nil => intro a _ h; rw [parseUint10, show dv a [] = a by unfold dv; rw [List.foldl_nil], if_pos h]
  | cons c r ih =>
    intro a hd h
    have hc := (dgt_iff c).1 (hd c (by simp))
    have hg := dv_ge r (a * 10 + (c.toNat - 48))
    rw [parseUint10, if_pos hc, dv_cons]
    by_cases h1 : 1844674407370955162 ≤ a
    · rw [if_pos h1, if_neg (by omega)]
    · rw [if_neg h1]
      by_cases h2 : 18446744073709551616 ≤ a * 10 + (c.toNat - 48)
      · rw [if_pos h2, if_neg (by omega)]
      · rw [if_neg h2]
        exact ih _ (fun x hx => hd x (by simp [hx])) (by omega)
/-- Atoi at digits. -/
theorem atoi_plain (d : List UInt8) (h0 : d ≠ []) (hd : ∀ c ∈ d, dgt c = true) :
    (dv 0 d ≤ 17592186044416 → atoiAll d = .ok (dv 0 d : Int)) ∧ (17592186044416 < dv 0 d → atoiAll d = .range ∨ ∃ u : Int, atoiAll d = .ok u ∧ 17592186044416 < u) := by
  obtain ⟨c, r, rfl⟩ : ∃ c r, d = c :: r := by cases d with | nil => exact absurd rfl h0 | cons c r => exact ⟨c, r, rfl⟩
  have hc := (dgt_iff c).1 (hd c (by simp))
  have e : atoiAll (c :: r) = match parseMag (c :: r) with | .ok u => if 9223372036854775808 ≤ u then .range else .ok (u : Int) | x => match x with | .range => .range | _ => atoiAll (c :: r) := by
    have n1 : ¬ (c.toNat = 45) := by omega
    have n2 : ¬ (c.toNat = 43 ∨ c.toNat = 45) := by omega
    cases hp : parseMag (c :: r) with
    | ok u =>
      simp only [atoiAll, if_neg n2, hp]
      simp [n1]
    | range => simp only [atoiAll, if_neg n2, hp]
    | _ => rfl
  have hm : parseMag (c :: r) = if dv 0 (c :: r) < 18446744073709551616 then .ok (dv 0 (c :: r)) else .range := by
    unfold parseMag
    rw [if_neg (by simp)]
    exact parse_dv _ 0 hd (by omega)
  rw [e, hm]
  generalize dv 0 (c :: r) = v
  constructor
  · intro h
    rw [if_pos (by omega)]
    show (if 9223372036854775808 ≤ v then NumEnd.range else NumEnd.ok (v : Int)) = _
    rw [if_neg (by omega)]
  · intro h
    by_cases h1 : v < 18446744073709551616
    · rw [if_pos h1]
      show (if 9223372036854775808 ≤ v then NumEnd.range else NumEnd.ok (v : Int)) = _ ∨ ∃ u : Int, (if 9223372036854775808 ≤ v then NumEnd.range else NumEnd.ok (v : Int)) = _ ∧ _
      by_cases h2 : 9223372036854775808 ≤ v
      · left; rw [if_pos h2]
      · right; exact ⟨v, by rw [if_neg h2], by omega⟩
    · rw [if_neg h1]; left; rfl
/-- Atoi at digits behind a hyphen. -/
theorem atoi_minus (d : List UInt8) (h0 : d ≠ []) (hd : ∀ c ∈ d, dgt c = true) :
    (dv 0 d ≤ 17592186044416 → atoiAll (45 :: d) = .ok (-(dv 0 d : Int))) ∧ (17592186044416 < dv 0 d → atoiAll (45 :: d) = .range ∨ ∃ u : Int, atoiAll (45 :: d) = .ok u ∧ u < -17592186044416) := by
  have e : atoiAll (45 :: d) = match parseMag d with | .ok u => if 9223372036854775808 < u then .range else .ok (-(u : Int)) | x => match x with | .range => .range | _ => atoiAll (45 :: d) := by
    cases hp : parseMag d with
    | ok u => simp [atoiAll, hp]
    | range => simp [atoiAll, hp]
    | _ => rfl
  have hm : parseMag d = if dv 0 d < 18446744073709551616 then .ok (dv 0 d) else .range := by
    unfold parseMag
    rw [if_neg h0]
    exact parse_dv _ 0 hd (by omega)
  rw [e, hm]
  generalize dv 0 d = v
  constructor
  · intro h
    rw [if_pos (by omega)]
    show (if 9223372036854775808 < v then NumEnd.range else NumEnd.ok (-(v : Int))) = _
    rw [if_neg (by omega)]
  · intro h
    by_cases h1 : v < 18446744073709551616
    · rw [if_pos h1]
      show (if 9223372036854775808 < v then NumEnd.range else NumEnd.ok (-(v : Int))) = _ ∨ ∃ u : Int, (if 9223372036854775808 < v then NumEnd.range else NumEnd.ok (-(v : Int))) = _ ∧ _
      by_cases h2 : 9223372036854775808 < v
      · left; rw [if_pos h2]
      · right; exact ⟨-(v : Int), by rw [if_neg h2], by omega⟩
    · rw [if_neg h1]; left; rfl
/-- The numeral of a token, and its digits. -/
theorem num_parts (l : List UInt8) (h : numSz l ≠ sgn l) : ∃ d, d ≠ [] ∧ (∀ c ∈ d, dgt c = true) ∧ d = (l.take (numSz l)).drop (sgn l) ∧ l.take (numSz l) = (if sgn l = 1 then 45 :: d else d) ∧ d.length = spn dgt (l.drop (sgn l)) := by
  have hs1 : sgn l ≤ 1 := by unfold sgn; split <;> omega
  have a := spn_le dgt (l.drop (sgn l))
  rw [List.length_drop] at a
  have hz : numSz l = sgn l + spn dgt (l.drop (sgn l)) := rfl
  have hle : numSz l ≤ l.length := by
    by_cases e : sgn l ≤ l.length
    · omega
    · have h2 : spn dgt (l.drop (sgn l)) = 0 := by omega
      omega
  have hlen : ((l.take (numSz l)).drop (sgn l)).length = spn dgt (l.drop (sgn l)) := by rw [List.length_drop, List.length_take]; omega
  refine ⟨(l.take (numSz l)).drop (sgn l), ?_, ?_, rfl, ?_, hlen⟩
  · intro e
    rw [e] at hlen; simp at hlen; omega
  · intro c hc
    obtain ⟨j, hj, rfl⟩ := List.getElem_of_mem hc
    have := spn_in dgt (l.drop (sgn l)) j (by omega)
    rw [List.getD_eq_getElem?_getD, List.getElem?_drop, List.getElem?_eq_getElem (by omega)] at this
    rw [List.getElem_drop, List.getElem_take]
    simpa using this
  · by_cases e : sgn l = 1
    · rw [if_pos e, e]
      cases l with
      | nil => simp [sgn] at e
      | cons c r =>
        have hc : c.toNat = 45 := by
          by_cases h45 : c.toNat = 45
          · exact h45
          · simp [sgn, h45] at e
        have hc2 : c = 45 := UInt8.toNat_inj.1 (by rw [hc]; rfl)
        have hpos : numSz (c :: r) = (numSz (c :: r) - 1) + 1 := by omega
        rw [hpos, List.take_succ_cons, hc2]
        simp
    · have e0 : sgn l = 0 := by omega
      rw [if_neg e, e0]
      simp
end Go.Proofs.YtjmipikahaoblaaGreatDoor.Lx
namespace Go.Proofs.YtjmipikahaoblaaGreatDoor.Lx
open Go.RowKit Go.Lib Go.Proofs.YtjmipikahaoblaaGreatDoor.Bas Go.Proofs.YtjmipikahaoblaaGreatDoor.Cal
set_option linter.unusedVariables false

set_option maxHeartbeats 1000000 in
theorem word_any (s : ByteArray) (w : World) (hs : s.size ≤ 16384) : Calls Tryz.prog 118 #[.string s] w (TokOut (wdV (bl s)) w) := by
  have c1 := Lib.hid (fun w => span_inWord s w (by omega))
  have hk := spn_le inW (bl s)
  rw [bl_size] at hk
  have c2 := Lib.hid (fun w => isWord_any (s.extract 0 (spn inW (bl s))) w (by rw [ByteArray.size_extract]; omega))
  rw [bl_take s _ hk] at c2
  have he := Lib.hid (tx_extract s 0 (spn inW (bl s)) hk)
  rw [List.drop_zero] at he
  unfold wdV
  generalize (bl s).take (spn inW (bl s)) = u at *
  generalize spn inW (bl s) = k at *
  obtain ⟨t, ht⟩ : ∃ t, s.extract 0 k = t := ⟨_, rfl⟩
  rw [ht] at he c2
  have hkk : (k : Int) ≤ (s.size : Int) := by omega
  have e1 : ∀ w, (Instr.slice 9 (.string s) none (some (.int .i64 (k : Int))) none).run Tryz.prog w = .ok (.string t) w := fun w => by
    rw [run_slice_string_h w _ s Tryz.underlying9 .i64 (k : Int) (by omega) hkk, Int.toNat_natCast, ht]
  clear ht hk hkk
  cases hb : wordB u with
  | false =>
    rw [hb] at c2
    rw [if_neg (by simp)]
    clear hb he
    go_enter Tryz.func118, Tryz.ntmps118
    go_wp2_with fail
    refine (c1.out _).mono ?_; rintro e w' ⟨rfl, rfl⟩
    go_wp2_with fail
    refine (c2.out _).mono ?_; rintro e w' ⟨rfl, rfl⟩
    go_wp2_with fail
    exact bodyPost_ret (v := .tuple #[tkV z0, .int .i64 0, .int .i64 6]) (by simp [results, Tryz.results118, go_sem, tkV, z0, tx]) rfl ⟨rfl, (Below.refl _ _).alloc (Nat.le_refl _) _⟩
  | true =>
    rw [hb] at c2
    rw [if_pos rfl]
    clear hb
    go_enter Tryz.func118, Tryz.ntmps118
    go_wp2_with fail
    refine (c1.out _).mono ?_; rintro e w' ⟨rfl, rfl⟩
    go_wp2_with fail
    refine (c2.out _).mono ?_; rintro e w' ⟨rfl, rfl⟩
    go_wp2_with fail
    exact bodyPost_ret (v := .tuple #[.agg #[.int .i64 1, .string t, .int .i64 0, .int .i64 0], .int .i64 (k : Int), .int .i64 0]) (by simp [results, Tryz.results118, go_sem]) rfl ⟨by rw [he.out]; rfl, (Below.refl _ _).alloc (Nat.le_refl _) _⟩

/-- The four cells of a token at the beginning of block b. -/
def TkAt (W : World) (b : Nat) (t : Tk) : Prop := b < W.heap.size ∧ (W.cell? ⟨b, 0, none⟩ = some (.int .i64 t.k) ∧ W.cell? ⟨b, 1, none⟩ = some (.string (tx t.t)) ∧ W.cell? ⟨b, 2, none⟩ = some (.int .i64 t.n) ∧ W.cell? ⟨b, 3, none⟩ = some (.int .i64 t.p)) ∧
  W.frozen? ⟨b, 0, none⟩ = false ∧ W.frozen? ⟨b, 1, none⟩ = false ∧ W.frozen? ⟨b, 2, none⟩ = false ∧ W.frozen? ⟨b, 3, none⟩ = false
theorem TkAt.new (w : World) (t : Tk) : TkAt (w.alloc (.cells #[.int .i64 t.k, .string (tx t.t), .int .i64 t.n, .int .i64 t.p] 71)) w.heap.size t := by
  refine ⟨by simp, ⟨by simp, by simp, by simp, by simp⟩, by simp, by simp, by simp, by simp⟩
theorem TkAt.keep {w w' : World} {b : Nat} {t : Tk} (h : TkAt w b t) (hb : Below w.heap.size w w') : TkAt w' b t := by
  obtain ⟨h0, ⟨h1, h2, h3, h4⟩, h5, h6, h7, h8⟩ := h
  refine ⟨Nat.lt_of_lt_of_le h0 hb.size, ⟨?_, ?_, ?_, ?_⟩, ?_, ?_, ?_, ?_⟩
  · rw [hb.cell (p := ⟨b, 0, none⟩) h0]; exact h1
  · rw [hb.cell (p := ⟨b, 1, none⟩) h0]; exact h2
  · rw [hb.cell (p := ⟨b, 2, none⟩) h0]; exact h3
  · rw [hb.cell (p := ⟨b, 3, none⟩) h0]; exact h4
  · rw [hb.frozen (p := ⟨b, 0, none⟩) h0]; exact h5
  · rw [hb.frozen (p := ⟨b, 1, none⟩) h0]; exact h6
  · rw [hb.frozen (p := ⟨b, 2, none⟩) h0]; exact h7
  · rw [hb.frozen (p := ⟨b, 3, none⟩) h0]; exact h8
/-- The world with the four cells of block b set. -/
def setTk (w : World) (b : Nat) (t : Tk) : World := (((w.setCell ⟨b, 0, none⟩ (.int .i64 t.k)).setCell ⟨b, 1, none⟩ (.string (tx t.t))).setCell ⟨b, 2, none⟩ (.int .i64 t.n)).setCell ⟨b, 3, none⟩ (.int .i64 t.p)
theorem TkAt.set {w : World} {b : Nat} {t : Tk} (h : TkAt w b t) (t' : Tk) : TkAt (setTk w b t') b t' := by
  obtain ⟨h0, ⟨h1, h2, h3, h4⟩, h5, h6, h7, h8⟩ := h
  unfold setTk
  refine ⟨by simpa using h0, ⟨?_, ?_, ?_, ?_⟩, ?_, ?_, ?_, ?_⟩
  · rw [World.cell?_setCell_other _ _ _ _ (by simp), World.cell?_setCell_other _ _ _ _ (by simp), World.cell?_setCell_other _ _ _ _ (by simp)]; exact World.cell?_setCell_same _ _ _ h1
  · rw [World.cell?_setCell_other _ _ _ _ (by simp), World.cell?_setCell_other _ _ _ _ (by simp)]; exact World.cell?_setCell_same _ _ _ (by rw [World.cell?_setCell_other _ _ _ _ (by simp)]; exact h2)
  · rw [World.cell?_setCell_other _ _ _ _ (by simp)]; exact World.cell?_setCell_same _ _ _ (by rw [World.cell?_setCell_other _ _ _ _ (by simp), World.cell?_setCell_other _ _ _ _ (by simp)]; exact h3)
  · exact World.cell?_setCell_same _ _ _ (by rw [World.cell?_setCell_other _ _ _ _ (by simp), World.cell?_setCell_other _ _ _ _ (by simp), World.cell?_setCell_other _ _ _ _ (by simp)]; exact h4)
  · rw [World.frozen?_setCell, World.frozen?_setCell, World.frozen?_setCell, World.frozen?_setCell]; exact h5
  · rw [World.frozen?_setCell, World.frozen?_setCell, World.frozen?_setCell, World.frozen?_setCell]; exact h6
  · rw [World.frozen?_setCell, World.frozen?_setCell, World.frozen?_setCell, World.frozen?_setCell]; exact h7
  · rw [World.frozen?_setCell, World.frozen?_setCell, World.frozen?_setCell, World.frozen?_setCell]; exact h8
theorem below_setTk {B : Nat} {a w : World} (h : Below B a w) {b : Nat} (hb : B ≤ b) (t : Tk) : Below B a (setTk w b t) := (((h.setCell hb _).setCell hb _).setCell hb _).setCell hb _
end Go.Proofs.YtjmipikahaoblaaGreatDoor.Lx
namespace Go.Proofs.YtjmipikahaoblaaGreatDoor.Lx
open Go.RowKit Go.Lib Go.Proofs.YtjmipikahaoblaaGreatDoor.Bas Go.Proofs.YtjmipikahaoblaaGreatDoor.Cal
set_option linter.unusedVariables false

set_option maxHeartbeats 2000000 in
theorem number_none (s : ByteArray) (w : World) (h0 : 0 < s.size) (hs : s.size ≤ 16384) (sg : Bool) (hsg : ((s[0].toNat : Int) == 45) = sg) (hk : spn dgt ((bl s).drop (if sg then 1 else 0)) = 0) :
    Calls Tryz.prog 120 #[.string s] w (TokOut (z0, 0, 5) w) := by
  have c1 := Lib.hid (fun (n : Nat) (w : World) => span_isDigit (s.extract n s.size) w (by rw [ByteArray.size_extract]; omega))
  have hbd := Lib.hid (bl_drop s)
  cases sg with
  | false =>
    have c2 := fun w => span_isDigit s w (by omega)
    rw [show spn dgt (bl s) = 0 from hk] at c2
    have c3 := Lib.hid c2
    have hle : (0 : Int) ≤ (s.size : Int) := by omega
    have e1 : ∀ w, (Instr.slice 9 (.string s) (some (.int .i64 0)) none none).run Tryz.prog w = .ok (.string s) w := fun w => by
      rw [run_slice_string_l w _ s Tryz.underlying9 .i64 0 (by omega) hle, show (0 : Int).toNat = 0 from rfl, ByteArray.extract_zero_size]
    clear c2 c1 hk
    go_enter Tryz.func120, Tryz.ntmps120
    go_wp2_with fail
    refine (c3.out _).mono ?_; rintro e w' ⟨rfl, rfl⟩
    go_wp2_with fail
    exact bodyPost_ret (v := .tuple #[tkV z0, .int .i64 0, .int .i64 5]) (by simp [results, Tryz.results120, go_sem, tkV, z0, tx]) rfl ⟨rfl, (Below.refl _ _).alloc (Nat.le_refl _) _⟩
  | true =>
    have c2 := c1.out 1
    rw [bl_drop s 1, show spn dgt ((bl s).drop 1) = 0 from hk] at c2
    have c3 := Lib.hid c2
    have hle : (1 : Int) ≤ (s.size : Int) := by omega
    have e1 : ∀ w, (Instr.slice 9 (.string s) (some (.int .i64 1)) none none).run Tryz.prog w = .ok (.string (s.extract 1 s.size)) w := fun w => run_slice_string_l w _ s Tryz.underlying9 .i64 1 (by omega) hle
    clear c2 c1 hk
    go_enter Tryz.func120, Tryz.ntmps120
    go_wp2_with fail
    refine (c3.out _).mono ?_; rintro e w' ⟨rfl, rfl⟩
    go_wp2_with fail
    exact bodyPost_ret (v := .tuple #[tkV z0, .int .i64 0, .int .i64 5]) (by simp [results, Tryz.results120, go_sem, tkV, z0, tx]) rfl ⟨rfl, (Below.refl _ _).alloc (Nat.le_refl _) _⟩
/-- What Atoi does at the numeral t. -/
def AtOk (t : ByteArray) (v : Int) : Prop := ∀ w : World, Calls Tryz.prog 146 #[.string t] w fun e w' => e = .returned (.tuple #[.int .i64 v, .nilIface]) ∧ Below w.heap.size w w'
def AtFar (t : ByteArray) : Prop := ∀ w : World, Env w → Calls Tryz.prog 146 #[.string t] w fun e w' => ∃ v N, e = .returned (.tuple #[.int .i64 v, .iface 173 (.pointer (some ⟨N, 0, none⟩))]) ∧ Below w.heap.size w w'
theorem atOk (t : ByteArray) (ht : t.size ≤ 16384) (v : Int) (h : atoiAll (bl t) = .ok v) : AtOk t v := fun w => by
  refine (Tryz.strconv_Atoi_ok t (by omega) v h w).mono ?_
  rintro e w' ⟨rfl, hw⟩
  refine ⟨rfl, ?_⟩
  rcases hw with rfl | ⟨x, rfl⟩
  · exact Below.refl _ _
  · exact Lib.bytesWorld_below _ _ _
theorem atFar (t : ByteArray) (ht : t.size ≤ 16384) (h : atoiAll (bl t) = .range) : AtFar t := fun w hE => by
  obtain ⟨_, _, tp, p, hv⟩ := hE
  refine (Tryz.strconv_Atoi_range_var t (by omega) h tp p w hv).mono ?_
  rintro e w' ⟨N, rfl, _, _, hB⟩
  exact ⟨_, N, rfl, hB⟩
set_option maxHeartbeats 2000000 in
theorem number_zero0 (s : ByteArray) (w : World) (h0 : 0 < s.size) (hs : s.size ≤ 16384) (hsg : ((s[0].toNat : Int) == 45) = false) (k : Nat) (hk : spn dgt ((bl s).drop 0) = k) (hk1 : 1 ≤ k) (hks : k + 0 ≤ s.size) (hz : ((s[0].toNat : Int) == 48) = true) (hb : 1 < 0 + k) :
    Calls Tryz.prog 120 #[.string s] w (TokOut (z0, 0, 5) w) := by
  have c2 := fun w => span_isDigit s w (by omega)
  rw [show spn dgt (bl s) = k from hk] at c2
  have c3 := Lib.hid c2
  have hle : (0 : Int) ≤ (s.size : Int) := by omega
  have e1 : ∀ w, (Instr.slice 9 (.string s) (some (.int .i64 0)) none none).run Tryz.prog w = .ok (.string s) w := fun w => by
    rw [run_slice_string_l w _ s Tryz.underlying9 .i64 0 (by omega) hle, show (0 : Int).toNat = 0 from rfl, ByteArray.extract_zero_size]
  have u1 : ((k : Int) == 0) = false := by simp; omega
  have u1' : (k == 0) = false := by simp; omega
  have u2 : (1 + (k : Int) == 1) = false := by simp; omega
  have u5 : decide (0 < k) = true := by simp; omega
  have u6 : decide ((0 : Int) < (k : Int)) = true := by simp; omega
  have u3 : decide ((1 : Int) < (k : Int)) = true := by simp; omega
  have u3' : decide (1 < k) = true := by simp; omega
  clear c2 hk hb
  go_enter Tryz.func120, Tryz.ntmps120
  go_wp2_with fail
  refine (c3.out _).mono ?_; rintro e w' ⟨rfl, rfl⟩
  go_wp2_with fail
  try any_goals (exfalso; omega; done)
  exact bodyPost_ret (v := .tuple #[tkV z0, .int .i64 0, .int .i64 5]) (by simp [results, Tryz.results120, go_sem, tkV, z0, tx]) rfl ⟨rfl, (Below.refl _ _).alloc (Nat.le_refl _) _⟩
set_option maxHeartbeats 4000000 in
theorem number_val0 (s : ByteArray) (w : World) (h0 : 0 < s.size) (hs : s.size ≤ 16384) (hsg : ((s[0].toNat : Int) == 45) = false) (k : Nat) (hk : spn dgt ((bl s).drop 0) = k) (hk1 : 1 ≤ k) (hks : k + 0 ≤ s.size) (hz : ((s[0].toNat : Int) == 48) = false ∨ 0 + k = 1) (t : ByteArray) (ht : s.extract 0 (0 + k) = t) (v : Int) (hv : -17592186044416 ≤ v ∧ v ≤ 17592186044416) (hA : AtOk t v) :
    Calls Tryz.prog 120 #[.string s] w (TokOut (⟨2, [], v, 0⟩, 0 + k, 0) w) := by
  have c2 := fun w => span_isDigit s w (by omega)
  rw [show spn dgt (bl s) = k from hk] at c2
  have c3 := Lib.hid c2
  have hle : (0 : Int) ≤ (s.size : Int) := by omega
  have e1 : ∀ w, (Instr.slice 9 (.string s) (some (.int .i64 0)) none none).run Tryz.prog w = .ok (.string s) w := fun w => by
    rw [run_slice_string_l w _ s Tryz.underlying9 .i64 0 (by omega) hle, show (0 : Int).toNat = 0 from rfl, ByteArray.extract_zero_size]
  have u1 : ((k : Int) == 0) = false := by simp; omega
  have u1' : (k == 0) = false := by simp; omega
  have u2 : (1 + (k : Int) == 1) = false := by simp; omega
  have u5 : decide (0 < k) = true := by simp; omega
  have u6 : decide ((0 : Int) < (k : Int)) = true := by simp; omega
  have e2 : ∀ w, (Instr.slice 9 (.string s) none (some (.int .i64 ((k : Int)))) none).run Tryz.prog w = .ok (.string t) w := fun w => by
    rw [run_slice_string_h w _ s Tryz.underlying9 .i64 ((k : Int)) (by omega) (by omega), show ((k : Int)).toNat = 0 + k by omega, ht]
  have K0 := Lib.hid (TkAt.new w z0)
  have B0 := Lib.hid ((Below.refl w.heap.size w).alloc (Nat.le_refl _) (.cells #[.int .i64 0, .string { data := #[] }, .int .i64 0, .int .i64 0] 71))
  have cA := Lib.hid hA
  have cI := Lib.hid (fun w => isAmount_any v w)
  rw [decide_eq_true hv] at cI
  clear hA hv
  have hz' : (((s[0].toNat : Int) == 48) = false) ∨ 0 + k = 1 := hz
  clear c2 hk ht
  by_cases hk2 : 1 < 0 + k
  · have hz2 : ((s[0].toNat : Int) == 48) = false := by
      rcases hz' with h | h
      · exact h
      · omega
    have u3 : decide ((1 : Int) < (k : Int)) = true := by simp; omega
    have u3' : decide (1 < k) = true := by simp; omega
    clear hz hz' hk2
    go_enter Tryz.func120, Tryz.ntmps120
    go_wp2_with fail
    refine (c3.out _).mono ?_; rintro e w' ⟨rfl, rfl⟩
    go_wp2_with fail
    try any_goals (exfalso; omega; done)
    refine (cA.out _).mono ?_; rintro e W1 ⟨rfl, hB⟩
    have K1 := Lib.hid (K0.out.keep hB)
    have B1 := Lib.hid (B0.out.trans (hB.mono B0.out.size))
    have B2 := Lib.hid (below_setTk B1.out (Nat.le_refl _) ⟨2, [], v, 0⟩)
    have K2 := K1.out
    have K3 := Lib.hid (K1.out.set ⟨2, [], v, 0⟩)
    clear K0 B0 hB
    obtain ⟨j0, ⟨j1, j2, j3, j4⟩, j5, j6, j7, j8⟩ := K2
    go_wp2_with fail
    refine (cI.out _).mono ?_; rintro e w' ⟨rfl, rfl⟩
    go_wp2_with fail
    have l1 : ((((W1.setCell ⟨w.heap.size, 0, none⟩ (.int .i64 2)).setCell ⟨w.heap.size, 1, none⟩ (.string { data := #[] })).setCell ⟨w.heap.size, 2, none⟩ (.int .i64 v)).setCell ⟨w.heap.size, 3, none⟩ (.int .i64 0)).cell? ⟨w.heap.size, 0, none⟩ = some (.int .i64 2) := K3.out.2.1.1
    have l2 : ((((W1.setCell ⟨w.heap.size, 0, none⟩ (.int .i64 2)).setCell ⟨w.heap.size, 1, none⟩ (.string { data := #[] })).setCell ⟨w.heap.size, 2, none⟩ (.int .i64 v)).setCell ⟨w.heap.size, 3, none⟩ (.int .i64 0)).cell? ⟨w.heap.size, 1, none⟩ = some (.string { data := #[] }) := K3.out.2.1.2.1
    have l3 : ((((W1.setCell ⟨w.heap.size, 0, none⟩ (.int .i64 2)).setCell ⟨w.heap.size, 1, none⟩ (.string { data := #[] })).setCell ⟨w.heap.size, 2, none⟩ (.int .i64 v)).setCell ⟨w.heap.size, 3, none⟩ (.int .i64 0)).cell? ⟨w.heap.size, 2, none⟩ = some (.int .i64 v) := K3.out.2.1.2.2.1
    have l4 : ((((W1.setCell ⟨w.heap.size, 0, none⟩ (.int .i64 2)).setCell ⟨w.heap.size, 1, none⟩ (.string { data := #[] })).setCell ⟨w.heap.size, 2, none⟩ (.int .i64 v)).setCell ⟨w.heap.size, 3, none⟩ (.int .i64 0)).cell? ⟨w.heap.size, 3, none⟩ = some (.int .i64 0) := K3.out.2.1.2.2.2
    have l5 : Below w.heap.size w ((((W1.setCell ⟨w.heap.size, 0, none⟩ (.int .i64 2)).setCell ⟨w.heap.size, 1, none⟩ (.string { data := #[] })).setCell ⟨w.heap.size, 2, none⟩ (.int .i64 v)).setCell ⟨w.heap.size, 3, none⟩ (.int .i64 0)) := B2.out
    clear K1 K3 B1 B2 j0 j1 j2 j3 j4 j5 j6 j7 j8
    generalize (((W1.setCell ⟨w.heap.size, 0, none⟩ (.int .i64 2)).setCell ⟨w.heap.size, 1, none⟩ (.string { data := #[] })).setCell ⟨w.heap.size, 2, none⟩ (.int .i64 v)).setCell ⟨w.heap.size, 3, none⟩ (.int .i64 0) = W9 at *
    exact bodyPost_ret (v := .tuple #[.agg #[.int .i64 2, .string { data := #[] }, .int .i64 v, .int .i64 0], .int .i64 ((k : Int)), .int .i64 0]) (by simp [results, Tryz.results120, go_sem, l1, l2, l3, l4]) rfl ⟨by rw [show ((0 + k : Nat) : Int) = (k : Int) by omega]; rfl, l5⟩
  · have v3 : decide ((1 : Int) < (k : Int)) = false := by simp; omega
    have v3' : decide (1 < k) = false := by simp; omega
    clear hz hz' hk2
    go_enter Tryz.func120, Tryz.ntmps120
    go_wp2_with fail
    refine (c3.out _).mono ?_; rintro e w' ⟨rfl, rfl⟩
    go_wp2_with fail
    try any_goals (exfalso; omega; done)
    refine (cA.out _).mono ?_; rintro e W1 ⟨rfl, hB⟩
    have K1 := Lib.hid (K0.out.keep hB)
    have B1 := Lib.hid (B0.out.trans (hB.mono B0.out.size))
    have B2 := Lib.hid (below_setTk B1.out (Nat.le_refl _) ⟨2, [], v, 0⟩)
    have K2 := K1.out
    have K3 := Lib.hid (K1.out.set ⟨2, [], v, 0⟩)
    clear K0 B0 hB
    obtain ⟨j0, ⟨j1, j2, j3, j4⟩, j5, j6, j7, j8⟩ := K2
    go_wp2_with fail
    refine (cI.out _).mono ?_; rintro e w' ⟨rfl, rfl⟩
    go_wp2_with fail
    have l1 : ((((W1.setCell ⟨w.heap.size, 0, none⟩ (.int .i64 2)).setCell ⟨w.heap.size, 1, none⟩ (.string { data := #[] })).setCell ⟨w.heap.size, 2, none⟩ (.int .i64 v)).setCell ⟨w.heap.size, 3, none⟩ (.int .i64 0)).cell? ⟨w.heap.size, 0, none⟩ = some (.int .i64 2) := K3.out.2.1.1
    have l2 : ((((W1.setCell ⟨w.heap.size, 0, none⟩ (.int .i64 2)).setCell ⟨w.heap.size, 1, none⟩ (.string { data := #[] })).setCell ⟨w.heap.size, 2, none⟩ (.int .i64 v)).setCell ⟨w.heap.size, 3, none⟩ (.int .i64 0)).cell? ⟨w.heap.size, 1, none⟩ = some (.string { data := #[] }) := K3.out.2.1.2.1
    have l3 : ((((W1.setCell ⟨w.heap.size, 0, none⟩ (.int .i64 2)).setCell ⟨w.heap.size, 1, none⟩ (.string { data := #[] })).setCell ⟨w.heap.size, 2, none⟩ (.int .i64 v)).setCell ⟨w.heap.size, 3, none⟩ (.int .i64 0)).cell? ⟨w.heap.size, 2, none⟩ = some (.int .i64 v) := K3.out.2.1.2.2.1
    have l4 : ((((W1.setCell ⟨w.heap.size, 0, none⟩ (.int .i64 2)).setCell ⟨w.heap.size, 1, none⟩ (.string { data := #[] })).setCell ⟨w.heap.size, 2, none⟩ (.int .i64 v)).setCell ⟨w.heap.size, 3, none⟩ (.int .i64 0)).cell? ⟨w.heap.size, 3, none⟩ = some (.int .i64 0) := K3.out.2.1.2.2.2
    have l5 : Below w.heap.size w ((((W1.setCell ⟨w.heap.size, 0, none⟩ (.int .i64 2)).setCell ⟨w.heap.size, 1, none⟩ (.string { data := #[] })).setCell ⟨w.heap.size, 2, none⟩ (.int .i64 v)).setCell ⟨w.heap.size, 3, none⟩ (.int .i64 0)) := B2.out
    clear K1 K3 B1 B2 j0 j1 j2 j3 j4 j5 j6 j7 j8
    generalize (((W1.setCell ⟨w.heap.size, 0, none⟩ (.int .i64 2)).setCell ⟨w.heap.size, 1, none⟩ (.string { data := #[] })).setCell ⟨w.heap.size, 2, none⟩ (.int .i64 v)).setCell ⟨w.heap.size, 3, none⟩ (.int .i64 0) = W9 at *
    exact bodyPost_ret (v := .tuple #[.agg #[.int .i64 2, .string { data := #[] }, .int .i64 v, .int .i64 0], .int .i64 ((k : Int)), .int .i64 0]) (by simp [results, Tryz.results120, go_sem, l1, l2, l3, l4]) rfl ⟨by rw [show ((0 + k : Nat) : Int) = (k : Int) by omega]; rfl, l5⟩
set_option maxHeartbeats 4000000 in
theorem number_big0 (s : ByteArray) (w : World) (h0 : 0 < s.size) (hs : s.size ≤ 16384) (hsg : ((s[0].toNat : Int) == 45) = false) (k : Nat) (hk : spn dgt ((bl s).drop 0) = k) (hk1 : 1 ≤ k) (hks : k + 0 ≤ s.size) (hz : ((s[0].toNat : Int) == 48) = false ∨ 0 + k = 1) (t : ByteArray) (ht : s.extract 0 (0 + k) = t) (v : Int) (hv : ¬ (-17592186044416 ≤ v ∧ v ≤ 17592186044416)) (hA : AtOk t v) :
    Calls Tryz.prog 120 #[.string s] w (TokOut (z0, 0, 1) w) := by
  have c2 := fun w => span_isDigit s w (by omega)
  rw [show spn dgt (bl s) = k from hk] at c2
  have c3 := Lib.hid c2
  have hle : (0 : Int) ≤ (s.size : Int) := by omega
  have e1 : ∀ w, (Instr.slice 9 (.string s) (some (.int .i64 0)) none none).run Tryz.prog w = .ok (.string s) w := fun w => by
    rw [run_slice_string_l w _ s Tryz.underlying9 .i64 0 (by omega) hle, show (0 : Int).toNat = 0 from rfl, ByteArray.extract_zero_size]
  have u1 : ((k : Int) == 0) = false := by simp; omega
  have u1' : (k == 0) = false := by simp; omega
  have u2 : (1 + (k : Int) == 1) = false := by simp; omega
  have u5 : decide (0 < k) = true := by simp; omega
  have u6 : decide ((0 : Int) < (k : Int)) = true := by simp; omega
  have e2 : ∀ w, (Instr.slice 9 (.string s) none (some (.int .i64 ((k : Int)))) none).run Tryz.prog w = .ok (.string t) w := fun w => by
    rw [run_slice_string_h w _ s Tryz.underlying9 .i64 ((k : Int)) (by omega) (by omega), show ((k : Int)).toNat = 0 + k by omega, ht]
  have K0 := Lib.hid (TkAt.new w z0)
  have B0 := Lib.hid ((Below.refl w.heap.size w).alloc (Nat.le_refl _) (.cells #[.int .i64 0, .string { data := #[] }, .int .i64 0, .int .i64 0] 71))
  have cA := Lib.hid hA
  have cI := Lib.hid (fun w => isAmount_any v w)
  rw [decide_eq_false hv] at cI
  clear hA hv
  have hz' : (((s[0].toNat : Int) == 48) = false) ∨ 0 + k = 1 := hz
  clear c2 hk ht
  by_cases hk2 : 1 < 0 + k
  · have hz2 : ((s[0].toNat : Int) == 48) = false := by
      rcases hz' with h | h
      · exact h
      · omega
    have u3 : decide ((1 : Int) < (k : Int)) = true := by simp; omega
    have u3' : decide (1 < k) = true := by simp; omega
    clear hz hz' hk2
    go_enter Tryz.func120, Tryz.ntmps120
    go_wp2_with fail
    refine (c3.out _).mono ?_; rintro e w' ⟨rfl, rfl⟩
    go_wp2_with fail
    try any_goals (exfalso; omega; done)
    refine (cA.out _).mono ?_; rintro e W1 ⟨rfl, hB⟩
    have K1 := Lib.hid (K0.out.keep hB)
    have B1 := Lib.hid (B0.out.trans (hB.mono B0.out.size))
    have B2 := Lib.hid (below_setTk B1.out (Nat.le_refl _) z0)
    have K2 := K1.out
    have K3 := Lib.hid (K1.out.set z0)
    clear K0 B0 hB
    obtain ⟨j0, ⟨j1, j2, j3, j4⟩, j5, j6, j7, j8⟩ := K2
    go_wp2_with fail
    refine (cI.out _).mono ?_; rintro e w' ⟨rfl, rfl⟩
    go_wp2_with fail
    have l1 : ((((W1.setCell ⟨w.heap.size, 0, none⟩ (.int .i64 0)).setCell ⟨w.heap.size, 1, none⟩ (.string { data := #[] })).setCell ⟨w.heap.size, 2, none⟩ (.int .i64 0)).setCell ⟨w.heap.size, 3, none⟩ (.int .i64 0)).cell? ⟨w.heap.size, 0, none⟩ = some (.int .i64 0) := K3.out.2.1.1
    have l2 : ((((W1.setCell ⟨w.heap.size, 0, none⟩ (.int .i64 0)).setCell ⟨w.heap.size, 1, none⟩ (.string { data := #[] })).setCell ⟨w.heap.size, 2, none⟩ (.int .i64 0)).setCell ⟨w.heap.size, 3, none⟩ (.int .i64 0)).cell? ⟨w.heap.size, 1, none⟩ = some (.string { data := #[] }) := K3.out.2.1.2.1
    have l3 : ((((W1.setCell ⟨w.heap.size, 0, none⟩ (.int .i64 0)).setCell ⟨w.heap.size, 1, none⟩ (.string { data := #[] })).setCell ⟨w.heap.size, 2, none⟩ (.int .i64 0)).setCell ⟨w.heap.size, 3, none⟩ (.int .i64 0)).cell? ⟨w.heap.size, 2, none⟩ = some (.int .i64 0) := K3.out.2.1.2.2.1
    have l4 : ((((W1.setCell ⟨w.heap.size, 0, none⟩ (.int .i64 0)).setCell ⟨w.heap.size, 1, none⟩ (.string { data := #[] })).setCell ⟨w.heap.size, 2, none⟩ (.int .i64 0)).setCell ⟨w.heap.size, 3, none⟩ (.int .i64 0)).cell? ⟨w.heap.size, 3, none⟩ = some (.int .i64 0) := K3.out.2.1.2.2.2
    have l5 : Below w.heap.size w ((((W1.setCell ⟨w.heap.size, 0, none⟩ (.int .i64 0)).setCell ⟨w.heap.size, 1, none⟩ (.string { data := #[] })).setCell ⟨w.heap.size, 2, none⟩ (.int .i64 0)).setCell ⟨w.heap.size, 3, none⟩ (.int .i64 0)) := B2.out
    clear K1 K3 B1 B2 j0 j1 j2 j3 j4 j5 j6 j7 j8
    generalize (((W1.setCell ⟨w.heap.size, 0, none⟩ (.int .i64 0)).setCell ⟨w.heap.size, 1, none⟩ (.string { data := #[] })).setCell ⟨w.heap.size, 2, none⟩ (.int .i64 0)).setCell ⟨w.heap.size, 3, none⟩ (.int .i64 0) = W9 at *
    exact bodyPost_ret (v := .tuple #[.agg #[.int .i64 0, .string { data := #[] }, .int .i64 0, .int .i64 0], .int .i64 0, .int .i64 1]) (by simp [results, Tryz.results120, go_sem, l1, l2, l3, l4]) rfl ⟨rfl, l5⟩
  · have v3 : decide ((1 : Int) < (k : Int)) = false := by simp; omega
    have v3' : decide (1 < k) = false := by simp; omega
    clear hz hz' hk2
    go_enter Tryz.func120, Tryz.ntmps120
    go_wp2_with fail
    refine (c3.out _).mono ?_; rintro e w' ⟨rfl, rfl⟩
    go_wp2_with fail
    try any_goals (exfalso; omega; done)
    refine (cA.out _).mono ?_; rintro e W1 ⟨rfl, hB⟩
    have K1 := Lib.hid (K0.out.keep hB)
    have B1 := Lib.hid (B0.out.trans (hB.mono B0.out.size))
    have B2 := Lib.hid (below_setTk B1.out (Nat.le_refl _) z0)
    have K2 := K1.out
    have K3 := Lib.hid (K1.out.set z0)
    clear K0 B0 hB
    obtain ⟨j0, ⟨j1, j2, j3, j4⟩, j5, j6, j7, j8⟩ := K2
    go_wp2_with fail
    refine (cI.out _).mono ?_; rintro e w' ⟨rfl, rfl⟩
    go_wp2_with fail
    have l1 : ((((W1.setCell ⟨w.heap.size, 0, none⟩ (.int .i64 0)).setCell ⟨w.heap.size, 1, none⟩ (.string { data := #[] })).setCell ⟨w.heap.size, 2, none⟩ (.int .i64 0)).setCell ⟨w.heap.size, 3, none⟩ (.int .i64 0)).cell? ⟨w.heap.size, 0, none⟩ = some (.int .i64 0) := K3.out.2.1.1
    have l2 : ((((W1.setCell ⟨w.heap.size, 0, none⟩ (.int .i64 0)).setCell ⟨w.heap.size, 1, none⟩ (.string { data := #[] })).setCell ⟨w.heap.size, 2, none⟩ (.int .i64 0)).setCell ⟨w.heap.size, 3, none⟩ (.int .i64 0)).cell? ⟨w.heap.size, 1, none⟩ = some (.string { data := #[] }) := K3.out.2.1.2.1
    have l3 : ((((W1.setCell ⟨w.heap.size, 0, none⟩ (.int .i64 0)).setCell ⟨w.heap.size, 1, none⟩ (.string { data := #[] })).setCell ⟨w.heap.size, 2, none⟩ (.int .i64 0)).setCell ⟨w.heap.size, 3, none⟩ (.int .i64 0)).cell? ⟨w.heap.size, 2, none⟩ = some (.int .i64 0) := K3.out.2.1.2.2.1
    have l4 : ((((W1.setCell ⟨w.heap.size, 0, none⟩ (.int .i64 0)).setCell ⟨w.heap.size, 1, none⟩ (.string { data := #[] })).setCell ⟨w.heap.size, 2, none⟩ (.int .i64 0)).setCell ⟨w.heap.size, 3, none⟩ (.int .i64 0)).cell? ⟨w.heap.size, 3, none⟩ = some (.int .i64 0) := K3.out.2.1.2.2.2
    have l5 : Below w.heap.size w ((((W1.setCell ⟨w.heap.size, 0, none⟩ (.int .i64 0)).setCell ⟨w.heap.size, 1, none⟩ (.string { data := #[] })).setCell ⟨w.heap.size, 2, none⟩ (.int .i64 0)).setCell ⟨w.heap.size, 3, none⟩ (.int .i64 0)) := B2.out
    clear K1 K3 B1 B2 j0 j1 j2 j3 j4 j5 j6 j7 j8
    generalize (((W1.setCell ⟨w.heap.size, 0, none⟩ (.int .i64 0)).setCell ⟨w.heap.size, 1, none⟩ (.string { data := #[] })).setCell ⟨w.heap.size, 2, none⟩ (.int .i64 0)).setCell ⟨w.heap.size, 3, none⟩ (.int .i64 0) = W9 at *
    exact bodyPost_ret (v := .tuple #[.agg #[.int .i64 0, .string { data := #[] }, .int .i64 0, .int .i64 0], .int .i64 0, .int .i64 1]) (by simp [results, Tryz.results120, go_sem, l1, l2, l3, l4]) rfl ⟨rfl, l5⟩
set_option maxHeartbeats 4000000 in
theorem number_far0 (s : ByteArray) (w : World) (h0 : 0 < s.size) (hs : s.size ≤ 16384) (hsg : ((s[0].toNat : Int) == 45) = false) (k : Nat) (hk : spn dgt ((bl s).drop 0) = k) (hk1 : 1 ≤ k) (hks : k + 0 ≤ s.size) (hz : ((s[0].toNat : Int) == 48) = false ∨ 0 + k = 1) (t : ByteArray) (ht : s.extract 0 (0 + k) = t) (hE : Env w) (hA : AtFar t) :
    Calls Tryz.prog 120 #[.string s] w (TokOut (z0, 0, 1) w) := by
  have c2 := fun w => span_isDigit s w (by omega)
  rw [show spn dgt (bl s) = k from hk] at c2
  have c3 := Lib.hid c2
  have hle : (0 : Int) ≤ (s.size : Int) := by omega
  have e1 : ∀ w, (Instr.slice 9 (.string s) (some (.int .i64 0)) none none).run Tryz.prog w = .ok (.string s) w := fun w => by
    rw [run_slice_string_l w _ s Tryz.underlying9 .i64 0 (by omega) hle, show (0 : Int).toNat = 0 from rfl, ByteArray.extract_zero_size]
  have u1 : ((k : Int) == 0) = false := by simp; omega
  have u1' : (k == 0) = false := by simp; omega
  have u2 : (1 + (k : Int) == 1) = false := by simp; omega
  have u5 : decide (0 < k) = true := by simp; omega
  have u6 : decide ((0 : Int) < (k : Int)) = true := by simp; omega
  have e2 : ∀ w, (Instr.slice 9 (.string s) none (some (.int .i64 ((k : Int)))) none).run Tryz.prog w = .ok (.string t) w := fun w => by
    rw [run_slice_string_h w _ s Tryz.underlying9 .i64 ((k : Int)) (by omega) (by omega), show ((k : Int)).toNat = 0 + k by omega, ht]
  have K0 := Lib.hid (TkAt.new w z0)
  have B0 := Lib.hid ((Below.refl w.heap.size w).alloc (Nat.le_refl _) (.cells #[.int .i64 0, .string { data := #[] }, .int .i64 0, .int .i64 0] 71))
  have cA := Lib.hid (hA _ (hE.alloc (.cells #[.int .i64 0, .string { data := #[] }, .int .i64 0, .int .i64 0] 71)))
  clear hA
  have hz' : (((s[0].toNat : Int) == 48) = false) ∨ 0 + k = 1 := hz
  clear c2 hk ht
  by_cases hk2 : 1 < 0 + k
  · have hz2 : ((s[0].toNat : Int) == 48) = false := by
      rcases hz' with h | h
      · exact h
      · omega
    have u3 : decide ((1 : Int) < (k : Int)) = true := by simp; omega
    have u3' : decide (1 < k) = true := by simp; omega
    clear hz hz' hk2
    go_enter Tryz.func120, Tryz.ntmps120
    go_wp2_with fail
    refine (c3.out _).mono ?_; rintro e w' ⟨rfl, rfl⟩
    go_wp2_with fail
    try any_goals (exfalso; omega; done)
    refine cA.out.mono ?_; rintro e W1 ⟨v, N, rfl, hB⟩
    have K1 := Lib.hid (K0.out.keep hB)
    have B1 := Lib.hid (B0.out.trans (hB.mono B0.out.size))
    have B2 := Lib.hid (below_setTk B1.out (Nat.le_refl _) z0)
    have K2 := K1.out
    have K3 := Lib.hid (K1.out.set z0)
    clear K0 B0 hB
    obtain ⟨j0, ⟨j1, j2, j3, j4⟩, j5, j6, j7, j8⟩ := K2
    go_wp2_with fail
    have l1 : ((((W1.setCell ⟨w.heap.size, 0, none⟩ (.int .i64 0)).setCell ⟨w.heap.size, 1, none⟩ (.string { data := #[] })).setCell ⟨w.heap.size, 2, none⟩ (.int .i64 0)).setCell ⟨w.heap.size, 3, none⟩ (.int .i64 0)).cell? ⟨w.heap.size, 0, none⟩ = some (.int .i64 0) := K3.out.2.1.1
    have l2 : ((((W1.setCell ⟨w.heap.size, 0, none⟩ (.int .i64 0)).setCell ⟨w.heap.size, 1, none⟩ (.string { data := #[] })).setCell ⟨w.heap.size, 2, none⟩ (.int .i64 0)).setCell ⟨w.heap.size, 3, none⟩ (.int .i64 0)).cell? ⟨w.heap.size, 1, none⟩ = some (.string { data := #[] }) := K3.out.2.1.2.1
    have l3 : ((((W1.setCell ⟨w.heap.size, 0, none⟩ (.int .i64 0)).setCell ⟨w.heap.size, 1, none⟩ (.string { data := #[] })).setCell ⟨w.heap.size, 2, none⟩ (.int .i64 0)).setCell ⟨w.heap.size, 3, none⟩ (.int .i64 0)).cell? ⟨w.heap.size, 2, none⟩ = some (.int .i64 0) := K3.out.2.1.2.2.1
    have l4 : ((((W1.setCell ⟨w.heap.size, 0, none⟩ (.int .i64 0)).setCell ⟨w.heap.size, 1, none⟩ (.string { data := #[] })).setCell ⟨w.heap.size, 2, none⟩ (.int .i64 0)).setCell ⟨w.heap.size, 3, none⟩ (.int .i64 0)).cell? ⟨w.heap.size, 3, none⟩ = some (.int .i64 0) := K3.out.2.1.2.2.2
    have l5 : Below w.heap.size w ((((W1.setCell ⟨w.heap.size, 0, none⟩ (.int .i64 0)).setCell ⟨w.heap.size, 1, none⟩ (.string { data := #[] })).setCell ⟨w.heap.size, 2, none⟩ (.int .i64 0)).setCell ⟨w.heap.size, 3, none⟩ (.int .i64 0)) := B2.out
    clear K1 K3 B1 B2 j0 j1 j2 j3 j4 j5 j6 j7 j8
    generalize (((W1.setCell ⟨w.heap.size, 0, none⟩ (.int .i64 0)).setCell ⟨w.heap.size, 1, none⟩ (.string { data := #[] })).setCell ⟨w.heap.size, 2, none⟩ (.int .i64 0)).setCell ⟨w.heap.size, 3, none⟩ (.int .i64 0) = W9 at *
    exact bodyPost_ret (v := .tuple #[.agg #[.int .i64 0, .string { data := #[] }, .int .i64 0, .int .i64 0], .int .i64 0, .int .i64 1]) (by simp [results, Tryz.results120, go_sem, l1, l2, l3, l4]) rfl ⟨rfl, l5⟩
  · have v3 : decide ((1 : Int) < (k : Int)) = false := by simp; omega
    have v3' : decide (1 < k) = false := by simp; omega
    clear hz hz' hk2
    go_enter Tryz.func120, Tryz.ntmps120
    go_wp2_with fail
    refine (c3.out _).mono ?_; rintro e w' ⟨rfl, rfl⟩
    go_wp2_with fail
    try any_goals (exfalso; omega; done)
    refine cA.out.mono ?_; rintro e W1 ⟨v, N, rfl, hB⟩
    have K1 := Lib.hid (K0.out.keep hB)
    have B1 := Lib.hid (B0.out.trans (hB.mono B0.out.size))
    have B2 := Lib.hid (below_setTk B1.out (Nat.le_refl _) z0)
    have K2 := K1.out
    have K3 := Lib.hid (K1.out.set z0)
    clear K0 B0 hB
    obtain ⟨j0, ⟨j1, j2, j3, j4⟩, j5, j6, j7, j8⟩ := K2
    go_wp2_with fail
    have l1 : ((((W1.setCell ⟨w.heap.size, 0, none⟩ (.int .i64 0)).setCell ⟨w.heap.size, 1, none⟩ (.string { data := #[] })).setCell ⟨w.heap.size, 2, none⟩ (.int .i64 0)).setCell ⟨w.heap.size, 3, none⟩ (.int .i64 0)).cell? ⟨w.heap.size, 0, none⟩ = some (.int .i64 0) := K3.out.2.1.1
    have l2 : ((((W1.setCell ⟨w.heap.size, 0, none⟩ (.int .i64 0)).setCell ⟨w.heap.size, 1, none⟩ (.string { data := #[] })).setCell ⟨w.heap.size, 2, none⟩ (.int .i64 0)).setCell ⟨w.heap.size, 3, none⟩ (.int .i64 0)).cell? ⟨w.heap.size, 1, none⟩ = some (.string { data := #[] }) := K3.out.2.1.2.1
    have l3 : ((((W1.setCell ⟨w.heap.size, 0, none⟩ (.int .i64 0)).setCell ⟨w.heap.size, 1, none⟩ (.string { data := #[] })).setCell ⟨w.heap.size, 2, none⟩ (.int .i64 0)).setCell ⟨w.heap.size, 3, none⟩ (.int .i64 0)).cell? ⟨w.heap.size, 2, none⟩ = some (.int .i64 0) := K3.out.2.1.2.2.1
    have l4 : ((((W1.setCell ⟨w.heap.size, 0, none⟩ (.int .i64 0)).setCell ⟨w.heap.size, 1, none⟩ (.string { data := #[] })).setCell ⟨w.heap.size, 2, none⟩ (.int .i64 0)).setCell ⟨w.heap.size, 3, none⟩ (.int .i64 0)).cell? ⟨w.heap.size, 3, none⟩ = some (.int .i64 0) := K3.out.2.1.2.2.2
    have l5 : Below w.heap.size w ((((W1.setCell ⟨w.heap.size, 0, none⟩ (.int .i64 0)).setCell ⟨w.heap.size, 1, none⟩ (.string { data := #[] })).setCell ⟨w.heap.size, 2, none⟩ (.int .i64 0)).setCell ⟨w.heap.size, 3, none⟩ (.int .i64 0)) := B2.out
    clear K1 K3 B1 B2 j0 j1 j2 j3 j4 j5 j6 j7 j8
    generalize (((W1.setCell ⟨w.heap.size, 0, none⟩ (.int .i64 0)).setCell ⟨w.heap.size, 1, none⟩ (.string { data := #[] })).setCell ⟨w.heap.size, 2, none⟩ (.int .i64 0)).setCell ⟨w.heap.size, 3, none⟩ (.int .i64 0) = W9 at *
    exact bodyPost_ret (v := .tuple #[.agg #[.int .i64 0, .string { data := #[] }, .int .i64 0, .int .i64 0], .int .i64 0, .int .i64 1]) (by simp [results, Tryz.results120, go_sem, l1, l2, l3, l4]) rfl ⟨rfl, l5⟩
set_option maxHeartbeats 2000000 in
theorem number_zero1 (s : ByteArray) (w : World) (h0 : 1 < s.size) (hs : s.size ≤ 16384) (hsg : ((s[0].toNat : Int) == 45) = true) (k : Nat) (hk : spn dgt ((bl s).drop 1) = k) (hk1 : 1 ≤ k) (hks : k + 1 ≤ s.size) (hz : ((s[1].toNat : Int) == 48) = true) (hb : 1 < 1 + k) :
    Calls Tryz.prog 120 #[.string s] w (TokOut (z0, 0, 5) w) := by
  have c2 := fun w => span_isDigit (s.extract 1 s.size) w (by rw [ByteArray.size_extract]; omega)
  rw [bl_drop s 1, hk] at c2
  have c3 := Lib.hid c2
  have hle : (1 : Int) ≤ (s.size : Int) := by omega
  have e1 : ∀ w, (Instr.slice 9 (.string s) (some (.int .i64 1)) none none).run Tryz.prog w = .ok (.string (s.extract 1 s.size)) w := fun w => run_slice_string_l w _ s Tryz.underlying9 .i64 1 (by omega) hle
  have u1 : ((k : Int) == 0) = false := by simp; omega
  have u1' : (k == 0) = false := by simp; omega
  have u2 : (1 + (k : Int) == 1) = false := by simp; omega
  have u5 : decide (0 < k) = true := by simp; omega
  have u6 : decide ((0 : Int) < (k : Int)) = true := by simp; omega
  have u3 : decide ((1 : Int) < 1 + (k : Int)) = true := by simp; omega
  have u3' : decide (1 < 1 + k) = true := by simp; omega
  clear c2 hk hb
  go_enter Tryz.func120, Tryz.ntmps120
  go_wp2_with fail
  refine (c3.out _).mono ?_; rintro e w' ⟨rfl, rfl⟩
  go_wp2_with fail
  try any_goals (exfalso; omega; done)
  exact bodyPost_ret (v := .tuple #[tkV z0, .int .i64 0, .int .i64 5]) (by simp [results, Tryz.results120, go_sem, tkV, z0, tx]) rfl ⟨rfl, (Below.refl _ _).alloc (Nat.le_refl _) _⟩
set_option maxHeartbeats 4000000 in
theorem number_val1 (s : ByteArray) (w : World) (h0 : 1 < s.size) (hs : s.size ≤ 16384) (hsg : ((s[0].toNat : Int) == 45) = true) (k : Nat) (hk : spn dgt ((bl s).drop 1) = k) (hk1 : 1 ≤ k) (hks : k + 1 ≤ s.size) (hz : ((s[1].toNat : Int) == 48) = false ∨ 1 + k = 1) (t : ByteArray) (ht : s.extract 0 (1 + k) = t) (v : Int) (hv : -17592186044416 ≤ v ∧ v ≤ 17592186044416) (hA : AtOk t v) :
    Calls Tryz.prog 120 #[.string s] w (TokOut (⟨2, [], v, 0⟩, 1 + k, 0) w) := by
  have c2 := fun w => span_isDigit (s.extract 1 s.size) w (by rw [ByteArray.size_extract]; omega)
  rw [bl_drop s 1, hk] at c2
  have c3 := Lib.hid c2
  have hle : (1 : Int) ≤ (s.size : Int) := by omega
  have e1 : ∀ w, (Instr.slice 9 (.string s) (some (.int .i64 1)) none none).run Tryz.prog w = .ok (.string (s.extract 1 s.size)) w := fun w => run_slice_string_l w _ s Tryz.underlying9 .i64 1 (by omega) hle
  have u1 : ((k : Int) == 0) = false := by simp; omega
  have u1' : (k == 0) = false := by simp; omega
  have u2 : (1 + (k : Int) == 1) = false := by simp; omega
  have u5 : decide (0 < k) = true := by simp; omega
  have u6 : decide ((0 : Int) < (k : Int)) = true := by simp; omega
  have e2 : ∀ w, (Instr.slice 9 (.string s) none (some (.int .i64 (1 + (k : Int)))) none).run Tryz.prog w = .ok (.string t) w := fun w => by
    rw [run_slice_string_h w _ s Tryz.underlying9 .i64 (1 + (k : Int)) (by omega) (by omega), show (1 + (k : Int)).toNat = 1 + k by omega, ht]
  have K0 := Lib.hid (TkAt.new w z0)
  have B0 := Lib.hid ((Below.refl w.heap.size w).alloc (Nat.le_refl _) (.cells #[.int .i64 0, .string { data := #[] }, .int .i64 0, .int .i64 0] 71))
  have cA := Lib.hid hA
  have cI := Lib.hid (fun w => isAmount_any v w)
  rw [decide_eq_true hv] at cI
  clear hA hv
  have hz' : (((s[1].toNat : Int) == 48) = false) ∨ 1 + k = 1 := hz
  clear c2 hk ht
  by_cases hk2 : 1 < 1 + k
  · have hz2 : ((s[1].toNat : Int) == 48) = false := by
      rcases hz' with h | h
      · exact h
      · omega
    have u3 : decide ((1 : Int) < 1 + (k : Int)) = true := by simp; omega
    have u3' : decide (1 < 1 + k) = true := by simp; omega
    clear hz hz' hk2
    go_enter Tryz.func120, Tryz.ntmps120
    go_wp2_with fail
    refine (c3.out _).mono ?_; rintro e w' ⟨rfl, rfl⟩
    go_wp2_with fail
    try any_goals (exfalso; omega; done)
    refine (cA.out _).mono ?_; rintro e W1 ⟨rfl, hB⟩
    have K1 := Lib.hid (K0.out.keep hB)
    have B1 := Lib.hid (B0.out.trans (hB.mono B0.out.size))
    have B2 := Lib.hid (below_setTk B1.out (Nat.le_refl _) ⟨2, [], v, 0⟩)
    have K2 := K1.out
    have K3 := Lib.hid (K1.out.set ⟨2, [], v, 0⟩)
    clear K0 B0 hB
    obtain ⟨j0, ⟨j1, j2, j3, j4⟩, j5, j6, j7, j8⟩ := K2
    go_wp2_with fail
    refine (cI.out _).mono ?_; rintro e w' ⟨rfl, rfl⟩
    go_wp2_with fail
    have l1 : ((((W1.setCell ⟨w.heap.size, 0, none⟩ (.int .i64 2)).setCell ⟨w.heap.size, 1, none⟩ (.string { data := #[] })).setCell ⟨w.heap.size, 2, none⟩ (.int .i64 v)).setCell ⟨w.heap.size, 3, none⟩ (.int .i64 0)).cell? ⟨w.heap.size, 0, none⟩ = some (.int .i64 2) := K3.out.2.1.1
    have l2 : ((((W1.setCell ⟨w.heap.size, 0, none⟩ (.int .i64 2)).setCell ⟨w.heap.size, 1, none⟩ (.string { data := #[] })).setCell ⟨w.heap.size, 2, none⟩ (.int .i64 v)).setCell ⟨w.heap.size, 3, none⟩ (.int .i64 0)).cell? ⟨w.heap.size, 1, none⟩ = some (.string { data := #[] }) := K3.out.2.1.2.1
    have l3 : ((((W1.setCell ⟨w.heap.size, 0, none⟩ (.int .i64 2)).setCell ⟨w.heap.size, 1, none⟩ (.string { data := #[] })).setCell ⟨w.heap.size, 2, none⟩ (.int .i64 v)).setCell ⟨w.heap.size, 3, none⟩ (.int .i64 0)).cell? ⟨w.heap.size, 2, none⟩ = some (.int .i64 v) := K3.out.2.1.2.2.1
    have l4 : ((((W1.setCell ⟨w.heap.size, 0, none⟩ (.int .i64 2)).setCell ⟨w.heap.size, 1, none⟩ (.string { data := #[] })).setCell ⟨w.heap.size, 2, none⟩ (.int .i64 v)).setCell ⟨w.heap.size, 3, none⟩ (.int .i64 0)).cell? ⟨w.heap.size, 3, none⟩ = some (.int .i64 0) := K3.out.2.1.2.2.2
    have l5 : Below w.heap.size w ((((W1.setCell ⟨w.heap.size, 0, none⟩ (.int .i64 2)).setCell ⟨w.heap.size, 1, none⟩ (.string { data := #[] })).setCell ⟨w.heap.size, 2, none⟩ (.int .i64 v)).setCell ⟨w.heap.size, 3, none⟩ (.int .i64 0)) := B2.out
    clear K1 K3 B1 B2 j0 j1 j2 j3 j4 j5 j6 j7 j8
    generalize (((W1.setCell ⟨w.heap.size, 0, none⟩ (.int .i64 2)).setCell ⟨w.heap.size, 1, none⟩ (.string { data := #[] })).setCell ⟨w.heap.size, 2, none⟩ (.int .i64 v)).setCell ⟨w.heap.size, 3, none⟩ (.int .i64 0) = W9 at *
    exact bodyPost_ret (v := .tuple #[.agg #[.int .i64 2, .string { data := #[] }, .int .i64 v, .int .i64 0], .int .i64 (1 + (k : Int)), .int .i64 0]) (by simp [results, Tryz.results120, go_sem, l1, l2, l3, l4]) rfl ⟨by rw [show ((1 + k : Nat) : Int) = 1 + (k : Int) by omega]; rfl, l5⟩
  · exfalso; omega
set_option maxHeartbeats 4000000 in
theorem number_big1 (s : ByteArray) (w : World) (h0 : 1 < s.size) (hs : s.size ≤ 16384) (hsg : ((s[0].toNat : Int) == 45) = true) (k : Nat) (hk : spn dgt ((bl s).drop 1) = k) (hk1 : 1 ≤ k) (hks : k + 1 ≤ s.size) (hz : ((s[1].toNat : Int) == 48) = false ∨ 1 + k = 1) (t : ByteArray) (ht : s.extract 0 (1 + k) = t) (v : Int) (hv : ¬ (-17592186044416 ≤ v ∧ v ≤ 17592186044416)) (hA : AtOk t v) :
    Calls Tryz.prog 120 #[.string s] w (TokOut (z0, 0, 1) w) := by
  have c2 := fun w => span_isDigit (s.extract 1 s.size) w (by rw [ByteArray.size_extract]; omega)
  rw [bl_drop s 1, hk] at c2
  have c3 := Lib.hid c2
  have hle : (1 : Int) ≤ (s.size : Int) := by omega
  have e1 : ∀ w, (Instr.slice 9 (.string s) (some (.int .i64 1)) none none).run Tryz.prog w = .ok (.string (s.extract 1 s.size)) w := fun w => run_slice_string_l w _ s Tryz.underlying9 .i64 1 (by omega) hle
  have u1 : ((k : Int) == 0) = false := by simp; omega
  have u1' : (k == 0) = false := by simp; omega
  have u2 : (1 + (k : Int) == 1) = false := by simp; omega
  have u5 : decide (0 < k) = true := by simp; omega
  have u6 : decide ((0 : Int) < (k : Int)) = true := by simp; omega
  have e2 : ∀ w, (Instr.slice 9 (.string s) none (some (.int .i64 (1 + (k : Int)))) none).run Tryz.prog w = .ok (.string t) w := fun w => by
    rw [run_slice_string_h w _ s Tryz.underlying9 .i64 (1 + (k : Int)) (by omega) (by omega), show (1 + (k : Int)).toNat = 1 + k by omega, ht]
  have K0 := Lib.hid (TkAt.new w z0)
  have B0 := Lib.hid ((Below.refl w.heap.size w).alloc (Nat.le_refl _) (.cells #[.int .i64 0, .string { data := #[] }, .int .i64 0, .int .i64 0] 71))
  have cA := Lib.hid hA
  have cI := Lib.hid (fun w => isAmount_any v w)
  rw [decide_eq_false hv] at cI
  clear hA hv
  have hz' : (((s[1].toNat : Int) == 48) = false) ∨ 1 + k = 1 := hz
  clear c2 hk ht
  by_cases hk2 : 1 < 1 + k
  · have hz2 : ((s[1].toNat : Int) == 48) = false := by
      rcases hz' with h | h
      · exact h
      · omega
    have u3 : decide ((1 : Int) < 1 + (k : Int)) = true := by simp; omega
    have u3' : decide (1 < 1 + k) = true := by simp; omega
    clear hz hz' hk2
    go_enter Tryz.func120, Tryz.ntmps120
    go_wp2_with fail
    refine (c3.out _).mono ?_; rintro e w' ⟨rfl, rfl⟩
    go_wp2_with fail
    try any_goals (exfalso; omega; done)
    refine (cA.out _).mono ?_; rintro e W1 ⟨rfl, hB⟩
    have K1 := Lib.hid (K0.out.keep hB)
    have B1 := Lib.hid (B0.out.trans (hB.mono B0.out.size))
    have B2 := Lib.hid (below_setTk B1.out (Nat.le_refl _) z0)
    have K2 := K1.out
    have K3 := Lib.hid (K1.out.set z0)
    clear K0 B0 hB
    obtain ⟨j0, ⟨j1, j2, j3, j4⟩, j5, j6, j7, j8⟩ := K2
    go_wp2_with fail
    refine (cI.out _).mono ?_; rintro e w' ⟨rfl, rfl⟩
    go_wp2_with fail
    have l1 : ((((W1.setCell ⟨w.heap.size, 0, none⟩ (.int .i64 0)).setCell ⟨w.heap.size, 1, none⟩ (.string { data := #[] })).setCell ⟨w.heap.size, 2, none⟩ (.int .i64 0)).setCell ⟨w.heap.size, 3, none⟩ (.int .i64 0)).cell? ⟨w.heap.size, 0, none⟩ = some (.int .i64 0) := K3.out.2.1.1
    have l2 : ((((W1.setCell ⟨w.heap.size, 0, none⟩ (.int .i64 0)).setCell ⟨w.heap.size, 1, none⟩ (.string { data := #[] })).setCell ⟨w.heap.size, 2, none⟩ (.int .i64 0)).setCell ⟨w.heap.size, 3, none⟩ (.int .i64 0)).cell? ⟨w.heap.size, 1, none⟩ = some (.string { data := #[] }) := K3.out.2.1.2.1
    have l3 : ((((W1.setCell ⟨w.heap.size, 0, none⟩ (.int .i64 0)).setCell ⟨w.heap.size, 1, none⟩ (.string { data := #[] })).setCell ⟨w.heap.size, 2, none⟩ (.int .i64 0)).setCell ⟨w.heap.size, 3, none⟩ (.int .i64 0)).cell? ⟨w.heap.size, 2, none⟩ = some (.int .i64 0) := K3.out.2.1.2.2.1
    have l4 : ((((W1.setCell ⟨w.heap.size, 0, none⟩ (.int .i64 0)).setCell ⟨w.heap.size, 1, none⟩ (.string { data := #[] })).setCell ⟨w.heap.size, 2, none⟩ (.int .i64 0)).setCell ⟨w.heap.size, 3, none⟩ (.int .i64 0)).cell? ⟨w.heap.size, 3, none⟩ = some (.int .i64 0) := K3.out.2.1.2.2.2
    have l5 : Below w.heap.size w ((((W1.setCell ⟨w.heap.size, 0, none⟩ (.int .i64 0)).setCell ⟨w.heap.size, 1, none⟩ (.string { data := #[] })).setCell ⟨w.heap.size, 2, none⟩ (.int .i64 0)).setCell ⟨w.heap.size, 3, none⟩ (.int .i64 0)) := B2.out
    clear K1 K3 B1 B2 j0 j1 j2 j3 j4 j5 j6 j7 j8
    generalize (((W1.setCell ⟨w.heap.size, 0, none⟩ (.int .i64 0)).setCell ⟨w.heap.size, 1, none⟩ (.string { data := #[] })).setCell ⟨w.heap.size, 2, none⟩ (.int .i64 0)).setCell ⟨w.heap.size, 3, none⟩ (.int .i64 0) = W9 at *
    exact bodyPost_ret (v := .tuple #[.agg #[.int .i64 0, .string { data := #[] }, .int .i64 0, .int .i64 0], .int .i64 0, .int .i64 1]) (by simp [results, Tryz.results120, go_sem, l1, l2, l3, l4]) rfl ⟨rfl, l5⟩
  · exfalso; omega
set_option maxHeartbeats 4000000 in
theorem number_far1 (s : ByteArray) (w : World) (h0 : 1 < s.size) (hs : s.size ≤ 16384) (hsg : ((s[0].toNat : Int) == 45) = true) (k : Nat) (hk : spn dgt ((bl s).drop 1) = k) (hk1 : 1 ≤ k) (hks : k + 1 ≤ s.size) (hz : ((s[1].toNat : Int) == 48) = false ∨ 1 + k = 1) (t : ByteArray) (ht : s.extract 0 (1 + k) = t) (hE : Env w) (hA : AtFar t) :
    Calls Tryz.prog 120 #[.string s] w (TokOut (z0, 0, 1) w) := by
  have c2 := fun w => span_isDigit (s.extract 1 s.size) w (by rw [ByteArray.size_extract]; omega)
  rw [bl_drop s 1, hk] at c2
  have c3 := Lib.hid c2
  have hle : (1 : Int) ≤ (s.size : Int) := by omega
  have e1 : ∀ w, (Instr.slice 9 (.string s) (some (.int .i64 1)) none none).run Tryz.prog w = .ok (.string (s.extract 1 s.size)) w := fun w => run_slice_string_l w _ s Tryz.underlying9 .i64 1 (by omega) hle
  have u1 : ((k : Int) == 0) = false := by simp; omega
  have u1' : (k == 0) = false := by simp; omega
  have u2 : (1 + (k : Int) == 1) = false := by simp; omega
  have u5 : decide (0 < k) = true := by simp; omega
  have u6 : decide ((0 : Int) < (k : Int)) = true := by simp; omega
  have e2 : ∀ w, (Instr.slice 9 (.string s) none (some (.int .i64 (1 + (k : Int)))) none).run Tryz.prog w = .ok (.string t) w := fun w => by
    rw [run_slice_string_h w _ s Tryz.underlying9 .i64 (1 + (k : Int)) (by omega) (by omega), show (1 + (k : Int)).toNat = 1 + k by omega, ht]
  have K0 := Lib.hid (TkAt.new w z0)
  have B0 := Lib.hid ((Below.refl w.heap.size w).alloc (Nat.le_refl _) (.cells #[.int .i64 0, .string { data := #[] }, .int .i64 0, .int .i64 0] 71))
  have cA := Lib.hid (hA _ (hE.alloc (.cells #[.int .i64 0, .string { data := #[] }, .int .i64 0, .int .i64 0] 71)))
  clear hA
  have hz' : (((s[1].toNat : Int) == 48) = false) ∨ 1 + k = 1 := hz
  clear c2 hk ht
  by_cases hk2 : 1 < 1 + k
  · have hz2 : ((s[1].toNat : Int) == 48) = false := by
      rcases hz' with h | h
      · exact h
      · omega
    have u3 : decide ((1 : Int) < 1 + (k : Int)) = true := by simp; omega
    have u3' : decide (1 < 1 + k) = true := by simp; omega
    clear hz hz' hk2
    go_enter Tryz.func120, Tryz.ntmps120
    go_wp2_with fail
    refine (c3.out _).mono ?_; rintro e w' ⟨rfl, rfl⟩
    go_wp2_with fail
    try any_goals (exfalso; omega; done)
    refine cA.out.mono ?_; rintro e W1 ⟨v, N, rfl, hB⟩
    have K1 := Lib.hid (K0.out.keep hB)
    have B1 := Lib.hid (B0.out.trans (hB.mono B0.out.size))
    have B2 := Lib.hid (below_setTk B1.out (Nat.le_refl _) z0)
    have K2 := K1.out
    have K3 := Lib.hid (K1.out.set z0)
    clear K0 B0 hB
    obtain ⟨j0, ⟨j1, j2, j3, j4⟩, j5, j6, j7, j8⟩ := K2
    go_wp2_with fail
    have l1 : ((((W1.setCell ⟨w.heap.size, 0, none⟩ (.int .i64 0)).setCell ⟨w.heap.size, 1, none⟩ (.string { data := #[] })).setCell ⟨w.heap.size, 2, none⟩ (.int .i64 0)).setCell ⟨w.heap.size, 3, none⟩ (.int .i64 0)).cell? ⟨w.heap.size, 0, none⟩ = some (.int .i64 0) := K3.out.2.1.1
    have l2 : ((((W1.setCell ⟨w.heap.size, 0, none⟩ (.int .i64 0)).setCell ⟨w.heap.size, 1, none⟩ (.string { data := #[] })).setCell ⟨w.heap.size, 2, none⟩ (.int .i64 0)).setCell ⟨w.heap.size, 3, none⟩ (.int .i64 0)).cell? ⟨w.heap.size, 1, none⟩ = some (.string { data := #[] }) := K3.out.2.1.2.1
    have l3 : ((((W1.setCell ⟨w.heap.size, 0, none⟩ (.int .i64 0)).setCell ⟨w.heap.size, 1, none⟩ (.string { data := #[] })).setCell ⟨w.heap.size, 2, none⟩ (.int .i64 0)).setCell ⟨w.heap.size, 3, none⟩ (.int .i64 0)).cell? ⟨w.heap.size, 2, none⟩ = some (.int .i64 0) := K3.out.2.1.2.2.1
    have l4 : ((((W1.setCell ⟨w.heap.size, 0, none⟩ (.int .i64 0)).setCell ⟨w.heap.size, 1, none⟩ (.string { data := #[] })).setCell ⟨w.heap.size, 2, none⟩ (.int .i64 0)).setCell ⟨w.heap.size, 3, none⟩ (.int .i64 0)).cell? ⟨w.heap.size, 3, none⟩ = some (.int .i64 0) := K3.out.2.1.2.2.2
    have l5 : Below w.heap.size w ((((W1.setCell ⟨w.heap.size, 0, none⟩ (.int .i64 0)).setCell ⟨w.heap.size, 1, none⟩ (.string { data := #[] })).setCell ⟨w.heap.size, 2, none⟩ (.int .i64 0)).setCell ⟨w.heap.size, 3, none⟩ (.int .i64 0)) := B2.out
    clear K1 K3 B1 B2 j0 j1 j2 j3 j4 j5 j6 j7 j8
    generalize (((W1.setCell ⟨w.heap.size, 0, none⟩ (.int .i64 0)).setCell ⟨w.heap.size, 1, none⟩ (.string { data := #[] })).setCell ⟨w.heap.size, 2, none⟩ (.int .i64 0)).setCell ⟨w.heap.size, 3, none⟩ (.int .i64 0) = W9 at *
    exact bodyPost_ret (v := .tuple #[.agg #[.int .i64 0, .string { data := #[] }, .int .i64 0, .int .i64 0], .int .i64 0, .int .i64 1]) (by simp [results, Tryz.results120, go_sem, l1, l2, l3, l4]) rfl ⟨rfl, l5⟩
  · exfalso; omega
theorem sgn_of (s : ByteArray) (h0 : 0 < s.size) : sgn (bl s) = if ((s[0].toNat : Int) == 45) = true then 1 else 0 := by
  unfold sgn
  rw [bl_get s 0 h0]
  by_cases h : s[0].toNat = 45
  · rw [if_pos h, if_pos (by simp; omega)]
  · rw [if_neg h, if_neg (by simp; omega)]
set_option maxHeartbeats 4000000 in
theorem number_any (s : ByteArray) (w : World) (hE : Env w) (h0 : 0 < s.size) (hs : s.size ≤ 16384) : Calls Tryz.prog 120 #[.string s] w (TokOut (numV (bl s)) w) := by
  have hsg := sgn_of s h0
  by_cases hn : numSz (bl s) = sgn (bl s)
  · have hv : numV (bl s) = (z0, 0, 5) := by unfold numV; rw [if_pos (.inl hn)]
    rw [hv]
    refine number_none s w h0 hs ((s[0].toNat : Int) == 45) rfl ?_
    rw [← hsg]
    have : numSz (bl s) = sgn (bl s) + spn dgt ((bl s).drop (sgn (bl s))) := rfl
    omega
  · obtain ⟨d, hd0, hdd, hde, hdt, hdl⟩ := num_parts (bl s) hn
    have hz : numSz (bl s) = sgn (bl s) + spn dgt ((bl s).drop (sgn (bl s))) := rfl
    have hle := spn_le dgt ((bl s).drop (sgn (bl s)))
    rw [List.length_drop, bl_size] at hle
    have hd1 : 1 ≤ d.length := by cases d with | nil => exact absurd rfl hd0 | cons c r => simp
    have hsz : numSz (bl s) ≤ s.size := by omega
    have hbt : bl (s.extract 0 (numSz (bl s))) = (bl s).take (numSz (bl s)) := bl_take s _ hsz
    have hts : (s.extract 0 (numSz (bl s))).size ≤ 16384 := by rw [ByteArray.size_extract]; omega
    cases hq : ((s[0].toNat : Int) == 45) with
    | false =>
      rw [hq, if_neg (by simp)] at hsg
      rw [hsg] at hz hdt hdl hle hde
      rw [if_neg (by omega)] at hdt
      rw [hdt] at hbt
      have hz2 : numSz (bl s) = 0 + d.length := by omega
      have hg : ((bl s).getD 0 0).toNat = s[0].toNat := by rw [bl_get s 0 h0]
      by_cases hlead : 1 < numSz (bl s) ∧ ((bl s).getD 0 0).toNat = 48
      · have hv : numV (bl s) = (z0, 0, 5) := by unfold numV; rw [hsg, if_pos (.inr hlead)]
        rw [hv]
        exact number_zero0 s w h0 hs hq d.length hdl.symm hd1 (by omega) (by simp; omega) (by omega)
      · have hlead2 : ((s[0].toNat : Int) == 48) = false ∨ 0 + d.length = 1 := by
          by_cases e : s[0].toNat = 48
          · right; have : ¬ 1 < numSz (bl s) := fun h => hlead ⟨h, by omega⟩; omega
          · left; simp; omega
        have A := atoi_plain d hd0 hdd
        by_cases hbig : 17592186044416 < dv 0 d
        · have hv : numV (bl s) = (z0, 0, 1) := by
            unfold numV; rw [hsg, if_neg (by rintro (h | h); omega; exact hlead h), ← hde, if_pos hbig]
          rw [hv]
          rcases A.2 hbig with h | ⟨u, h, hu⟩
          · exact number_far0 s w h0 hs hq d.length hdl.symm hd1 (by omega) hlead2 _ rfl hE (atFar _ (by rw [← hz2]; exact hts) (by rw [← hz2, hbt]; exact h))
          · exact number_big0 s w h0 hs hq d.length hdl.symm hd1 (by omega) hlead2 _ rfl u (by omega) (atOk _ (by rw [← hz2]; exact hts) u (by rw [← hz2, hbt]; exact h))
        · have hv : numV (bl s) = (⟨2, [], (dv 0 d : Int), 0⟩, 0 + d.length, 0) := by
            unfold numV; rw [hsg, if_neg (by rintro (h | h); omega; exact hlead h), ← hde, if_neg hbig, if_neg (by omega), ← hz2]
          rw [hv]
          exact number_val0 s w h0 hs hq d.length hdl.symm hd1 (by omega) hlead2 _ rfl (dv 0 d) (by omega) (atOk _ (by rw [← hz2]; exact hts) _ (by rw [← hz2, hbt]; exact A.1 (by omega)))
    | true =>
      rw [hq, if_pos rfl] at hsg
      rw [hsg] at hz hdt hdl hle hde
      rw [if_pos rfl] at hdt
      rw [hdt] at hbt
      have hz2 : numSz (bl s) = 1 + d.length := by omega
      have h1 : 1 < s.size := by omega
      have hg : ((bl s).getD 1 0).toNat = s[1].toNat := by rw [bl_get s 1 h1]
      by_cases hlead : 1 < numSz (bl s) ∧ ((bl s).getD 1 0).toNat = 48
      · have hv : numV (bl s) = (z0, 0, 5) := by unfold numV; rw [hsg, if_pos (.inr hlead)]
        rw [hv]
        exact number_zero1 s w h1 hs hq d.length hdl.symm hd1 (by omega) (by simp; omega) (by omega)
      · have hlead2 : ((s[1].toNat : Int) == 48) = false ∨ 1 + d.length = 1 := by
          left
          have : ¬ (s[1].toNat = 48) := fun h => hlead ⟨by omega, by omega⟩
          simp; omega
        have A := atoi_minus d hd0 hdd
        by_cases hbig : 17592186044416 < dv 0 d
        · have hv : numV (bl s) = (z0, 0, 1) := by
            unfold numV; rw [hsg, if_neg (by rintro (h | h); omega; exact hlead h), ← hde, if_pos hbig]
          rw [hv]
          rcases A.2 hbig with h | ⟨u, h, hu⟩
          · exact number_far1 s w h1 hs hq d.length hdl.symm hd1 (by omega) hlead2 _ rfl hE (atFar _ (by rw [← hz2]; exact hts) (by rw [← hz2, hbt]; exact h))
          · exact number_big1 s w h1 hs hq d.length hdl.symm hd1 (by omega) hlead2 _ rfl u (by omega) (atOk _ (by rw [← hz2]; exact hts) u (by rw [← hz2, hbt]; exact h))
        · have hv : numV (bl s) = (⟨2, [], -(dv 0 d : Int), 0⟩, 1 + d.length, 0) := by
            unfold numV; rw [hsg, if_neg (by rintro (h | h); omega; exact hlead h), ← hde, if_neg hbig, if_pos rfl, ← hz2]
          rw [hv]
          exact number_val1 s w h1 hs hq d.length hdl.symm hd1 (by omega) hlead2 _ rfl (-(dv 0 d : Int)) (by omega) (atOk _ (by rw [← hz2]; exact hts) _ (by rw [← hz2, hbt]; exact A.1 (by omega)))
end Go.Proofs.YtjmipikahaoblaaGreatDoor.Lx
namespace Go.Proofs.YtjmipikahaoblaaGreatDoor.Lx
open Go.RowKit Go.Lib Go.Proofs.YtjmipikahaoblaaGreatDoor.Bas Go.Proofs.YtjmipikahaoblaaGreatDoor.Cal
set_option linter.unusedVariables false

set_option maxHeartbeats 4000000 in
theorem hour_any (s : ByteArray) (w : World) (hE : Env w) (h0 : 0 < s.size) (hs : s.size ≤ 16384) : Calls Tryz.prog 121 #[.string s] w (TokOut (hrV (bl s)) w) := by
  have hk := spn_le inH ((bl s).drop 1)
  rw [List.length_drop, bl_size] at hk
  have c1 := Lib.hid (fun w => span_inHour (s.extract 1 s.size) w (by rw [ByteArray.size_extract]; omega))
  rw [bl_drop s 1] at c1
  have hz : hrSz (bl s) = 1 + spn inH ((bl s).drop 1) := rfl
  have hle : hrSz (bl s) ≤ s.size := by omega
  have he := tx_extract s 1 (hrSz (bl s)) hle
  have c2 := Lib.hid (fun w hT => parse_any (s.extract 1 (hrSz (bl s))) w hT (by rw [ByteArray.size_extract]; omega))
  rw [he] at c2
  unfold hrV
  obtain ⟨t, ht⟩ : ∃ t, s.extract 1 (hrSz (bl s)) = t := ⟨_, rfl⟩
  have hle1 : (1 : Int) ≤ (s.size : Int) := by omega
  have e1 : ∀ w, (Instr.slice 9 (.string s) (some (.int .i64 1)) none none).run Tryz.prog w = .ok (.string (s.extract 1 s.size)) w := fun w => run_slice_string_l w _ s Tryz.underlying9 .i64 1 (by omega) hle1
  rw [ht] at he
  rw [← he] at c2 ⊢
  clear he
  rw [hz] at ht hle ⊢
  generalize spn inH ((bl s).drop 1) = k at *
  have e2 : ∀ w, (Instr.slice 9 (.string s) (some (.int .i64 1)) (some (.int .i64 (1 + (k : Int)))) none).run Tryz.prog w = .ok (.string t) w := fun w => by
    rw [run_slice_string w _ s .i64 .i64 1 (1 + (k : Int)) Tryz.underlying9 (by omega) (by omega) (by omega), show (1 : Int).toNat = 1 from rfl, show (1 + (k : Int)).toNat = 1 + k by omega, ht]
  have K0 := Lib.hid (TkAt.new w z0)
  have B0 := Lib.hid ((Below.refl w.heap.size w).alloc (Nat.le_refl _) (.cells #[.int .i64 0, .string { data := #[] }, .int .i64 0, .int .i64 0] 71))
  have hT := Lib.hid (hE.alloc (.cells #[.int .i64 0, .string { data := #[] }, .int .i64 0, .int .i64 0] 71)).1
  clear ht hz hE
  generalize parseV t = V at *
  obtain ⟨v, r⟩ := V
  by_cases hr : r = 0
  · rw [if_neg (by simpa using hr)]
    have u1 : (r == 0) = true := by simp [hr]
    have u2 : (r != 0) = false := by simp [hr]
    subst hr
    go_enter Tryz.func121, Tryz.ntmps121
    go_wp2_with fail
    refine (c1.out _).mono ?_; rintro e w' ⟨rfl, rfl⟩
    go_wp2_with fail
    refine (c2.out _ hT.out).mono ?_; rintro e W1 ⟨rfl, hB⟩
    have K1 := Lib.hid (K0.out.keep hB)
    have B1 := Lib.hid (B0.out.trans (hB.mono B0.out.size))
    have B2 := Lib.hid (below_setTk B1.out (Nat.le_refl _) ⟨3, [], v, 0⟩)
    have K2 := K1.out
    have K3 := Lib.hid (K1.out.set ⟨3, [], v, 0⟩)
    clear K0 B0 hB
    obtain ⟨j0, ⟨j1, j2, j3, j4⟩, j5, j6, j7, j8⟩ := K2
    go_wp2_with fail
    have l1 : ((((W1.setCell ⟨w.heap.size, 0, none⟩ (.int .i64 3)).setCell ⟨w.heap.size, 1, none⟩ (.string { data := #[] })).setCell ⟨w.heap.size, 2, none⟩ (.int .i64 v)).setCell ⟨w.heap.size, 3, none⟩ (.int .i64 0)).cell? ⟨w.heap.size, 0, none⟩ = some (.int .i64 3) := K3.out.2.1.1
    have l2 : ((((W1.setCell ⟨w.heap.size, 0, none⟩ (.int .i64 3)).setCell ⟨w.heap.size, 1, none⟩ (.string { data := #[] })).setCell ⟨w.heap.size, 2, none⟩ (.int .i64 v)).setCell ⟨w.heap.size, 3, none⟩ (.int .i64 0)).cell? ⟨w.heap.size, 1, none⟩ = some (.string { data := #[] }) := K3.out.2.1.2.1
    have l3 : ((((W1.setCell ⟨w.heap.size, 0, none⟩ (.int .i64 3)).setCell ⟨w.heap.size, 1, none⟩ (.string { data := #[] })).setCell ⟨w.heap.size, 2, none⟩ (.int .i64 v)).setCell ⟨w.heap.size, 3, none⟩ (.int .i64 0)).cell? ⟨w.heap.size, 2, none⟩ = some (.int .i64 v) := K3.out.2.1.2.2.1
    have l4 : ((((W1.setCell ⟨w.heap.size, 0, none⟩ (.int .i64 3)).setCell ⟨w.heap.size, 1, none⟩ (.string { data := #[] })).setCell ⟨w.heap.size, 2, none⟩ (.int .i64 v)).setCell ⟨w.heap.size, 3, none⟩ (.int .i64 0)).cell? ⟨w.heap.size, 3, none⟩ = some (.int .i64 0) := K3.out.2.1.2.2.2
    have l5 : Below w.heap.size w ((((W1.setCell ⟨w.heap.size, 0, none⟩ (.int .i64 3)).setCell ⟨w.heap.size, 1, none⟩ (.string { data := #[] })).setCell ⟨w.heap.size, 2, none⟩ (.int .i64 v)).setCell ⟨w.heap.size, 3, none⟩ (.int .i64 0)) := B2.out
    clear K1 K3 B1 B2 j0 j1 j2 j3 j4 j5 j6 j7 j8
    generalize (((W1.setCell ⟨w.heap.size, 0, none⟩ (.int .i64 3)).setCell ⟨w.heap.size, 1, none⟩ (.string { data := #[] })).setCell ⟨w.heap.size, 2, none⟩ (.int .i64 v)).setCell ⟨w.heap.size, 3, none⟩ (.int .i64 0) = W9 at *
    exact bodyPost_ret (v := .tuple #[.agg #[.int .i64 3, .string { data := #[] }, .int .i64 v, .int .i64 0], .int .i64 (1 + (k : Int)), .int .i64 0]) (by simp [results, Tryz.results121, go_sem, l1, l2, l3, l4]) rfl ⟨by rw [show ((1 + k : Nat) : Int) = 1 + (k : Int) by omega]; rfl, l5⟩
  · rw [if_pos (by simpa using hr)]
    have u1 : (r == 0) = false := by simp [hr]
    have u2 : (r != 0) = true := by simp [hr]
    clear hr
    go_enter Tryz.func121, Tryz.ntmps121
    go_wp2_with fail
    refine (c1.out _).mono ?_; rintro e w' ⟨rfl, rfl⟩
    go_wp2_with fail
    refine (c2.out _ hT.out).mono ?_; rintro e W1 ⟨rfl, hB⟩
    have K1 := Lib.hid (K0.out.keep hB)
    have B1 := Lib.hid (B0.out.trans (hB.mono B0.out.size))
    have B2 := Lib.hid (below_setTk B1.out (Nat.le_refl _) z0)
    have K2 := K1.out
    have K3 := Lib.hid (K1.out.set z0)
    clear K0 B0 hB
    obtain ⟨j0, ⟨j1, j2, j3, j4⟩, j5, j6, j7, j8⟩ := K2
    go_wp2_with fail
    have l1 : ((((W1.setCell ⟨w.heap.size, 0, none⟩ (.int .i64 0)).setCell ⟨w.heap.size, 1, none⟩ (.string { data := #[] })).setCell ⟨w.heap.size, 2, none⟩ (.int .i64 0)).setCell ⟨w.heap.size, 3, none⟩ (.int .i64 0)).cell? ⟨w.heap.size, 0, none⟩ = some (.int .i64 0) := K3.out.2.1.1
    have l2 : ((((W1.setCell ⟨w.heap.size, 0, none⟩ (.int .i64 0)).setCell ⟨w.heap.size, 1, none⟩ (.string { data := #[] })).setCell ⟨w.heap.size, 2, none⟩ (.int .i64 0)).setCell ⟨w.heap.size, 3, none⟩ (.int .i64 0)).cell? ⟨w.heap.size, 1, none⟩ = some (.string { data := #[] }) := K3.out.2.1.2.1
    have l3 : ((((W1.setCell ⟨w.heap.size, 0, none⟩ (.int .i64 0)).setCell ⟨w.heap.size, 1, none⟩ (.string { data := #[] })).setCell ⟨w.heap.size, 2, none⟩ (.int .i64 0)).setCell ⟨w.heap.size, 3, none⟩ (.int .i64 0)).cell? ⟨w.heap.size, 2, none⟩ = some (.int .i64 0) := K3.out.2.1.2.2.1
    have l4 : ((((W1.setCell ⟨w.heap.size, 0, none⟩ (.int .i64 0)).setCell ⟨w.heap.size, 1, none⟩ (.string { data := #[] })).setCell ⟨w.heap.size, 2, none⟩ (.int .i64 0)).setCell ⟨w.heap.size, 3, none⟩ (.int .i64 0)).cell? ⟨w.heap.size, 3, none⟩ = some (.int .i64 0) := K3.out.2.1.2.2.2
    have l5 : Below w.heap.size w ((((W1.setCell ⟨w.heap.size, 0, none⟩ (.int .i64 0)).setCell ⟨w.heap.size, 1, none⟩ (.string { data := #[] })).setCell ⟨w.heap.size, 2, none⟩ (.int .i64 0)).setCell ⟨w.heap.size, 3, none⟩ (.int .i64 0)) := B2.out
    clear K1 K3 B1 B2 j0 j1 j2 j3 j4 j5 j6 j7 j8
    generalize (((W1.setCell ⟨w.heap.size, 0, none⟩ (.int .i64 0)).setCell ⟨w.heap.size, 1, none⟩ (.string { data := #[] })).setCell ⟨w.heap.size, 2, none⟩ (.int .i64 0)).setCell ⟨w.heap.size, 3, none⟩ (.int .i64 0) = W9 at *
    exact bodyPost_ret (v := .tuple #[.agg #[.int .i64 0, .string { data := #[] }, .int .i64 0, .int .i64 0], .int .i64 0, .int .i64 r]) (by simp [results, Tryz.results121, go_sem, l1, l2, l3, l4]) rfl ⟨rfl, l5⟩
end Go.Proofs.YtjmipikahaoblaaGreatDoor.Lx
namespace Go.Proofs.YtjmipikahaoblaaGreatDoor.Lx
open Go.RowKit Go.Lib Go.Proofs.YtjmipikahaoblaaGreatDoor.Bas Go.Proofs.YtjmipikahaoblaaGreatDoor.Cal
set_option linter.unusedVariables false

set_option maxHeartbeats 4000000 in
theorem first_word (s : ByteArray) (w : World) (h0 : 0 < s.size) (hs : s.size ≤ 16384) (h : ltr s[0] = true) : Calls Tryz.prog 80 #[.string s] w (TokOut (wdV (bl s)) w) := by
  have cL := Lib.hid (isLetter_any s[0])
  rw [h] at cL
  have cF := Lib.hid (fun w => word_any s w hs)
  generalize wdV (bl s) = x at *
  obtain ⟨⟨k1, t1, n1, p1⟩, sz1, e1⟩ := x
  clear h
  have K0 := Lib.hid (TkAt.new w z0)
  have B0 := Lib.hid ((Below.refl w.heap.size w).alloc (Nat.le_refl _) (.cells #[.int .i64 0, .string { data := #[] }, .int .i64 0, .int .i64 0] 71))
  go_enter Tryz.func80, Tryz.ntmps80
  go_wp2_with fail
  refine (cL.out _).mono ?_; rintro e w' ⟨rfl, rfl⟩
  go_wp2_with fail
  refine (cF.out _).mono ?_; rintro e W1 ⟨rfl, hB⟩
  have K1 := Lib.hid (K0.out.keep hB)
  have B1 := Lib.hid (B0.out.trans (hB.mono B0.out.size))
  have B2 := Lib.hid (below_setTk B1.out (Nat.le_refl _) ⟨k1, t1, n1, p1⟩)
  have K2 := K1.out
  have K3 := Lib.hid (K1.out.set ⟨k1, t1, n1, p1⟩)
  clear K0 B0 hB
  obtain ⟨j0, ⟨j1, j2, j3, j4⟩, j5, j6, j7, j8⟩ := K2
  unfold tkV
  go_wp2_with fail
  have l1 : ((((W1.setCell ⟨w.heap.size, 0, none⟩ (.int .i64 k1)).setCell ⟨w.heap.size, 1, none⟩ (.string (tx t1))).setCell ⟨w.heap.size, 2, none⟩ (.int .i64 n1)).setCell ⟨w.heap.size, 3, none⟩ (.int .i64 p1)).cell? ⟨w.heap.size, 0, none⟩ = some (.int .i64 k1) := K3.out.2.1.1
  have l2 : ((((W1.setCell ⟨w.heap.size, 0, none⟩ (.int .i64 k1)).setCell ⟨w.heap.size, 1, none⟩ (.string (tx t1))).setCell ⟨w.heap.size, 2, none⟩ (.int .i64 n1)).setCell ⟨w.heap.size, 3, none⟩ (.int .i64 p1)).cell? ⟨w.heap.size, 1, none⟩ = some (.string (tx t1)) := K3.out.2.1.2.1
  have l3 : ((((W1.setCell ⟨w.heap.size, 0, none⟩ (.int .i64 k1)).setCell ⟨w.heap.size, 1, none⟩ (.string (tx t1))).setCell ⟨w.heap.size, 2, none⟩ (.int .i64 n1)).setCell ⟨w.heap.size, 3, none⟩ (.int .i64 p1)).cell? ⟨w.heap.size, 2, none⟩ = some (.int .i64 n1) := K3.out.2.1.2.2.1
  have l4 : ((((W1.setCell ⟨w.heap.size, 0, none⟩ (.int .i64 k1)).setCell ⟨w.heap.size, 1, none⟩ (.string (tx t1))).setCell ⟨w.heap.size, 2, none⟩ (.int .i64 n1)).setCell ⟨w.heap.size, 3, none⟩ (.int .i64 p1)).cell? ⟨w.heap.size, 3, none⟩ = some (.int .i64 p1) := K3.out.2.1.2.2.2
  have l5 : Below w.heap.size w ((((W1.setCell ⟨w.heap.size, 0, none⟩ (.int .i64 k1)).setCell ⟨w.heap.size, 1, none⟩ (.string (tx t1))).setCell ⟨w.heap.size, 2, none⟩ (.int .i64 n1)).setCell ⟨w.heap.size, 3, none⟩ (.int .i64 p1)) := B2.out
  clear K1 K3 B1 B2 j0 j1 j2 j3 j4 j5 j6 j7 j8
  generalize (((W1.setCell ⟨w.heap.size, 0, none⟩ (.int .i64 k1)).setCell ⟨w.heap.size, 1, none⟩ (.string (tx t1))).setCell ⟨w.heap.size, 2, none⟩ (.int .i64 n1)).setCell ⟨w.heap.size, 3, none⟩ (.int .i64 p1) = W9 at *
  exact bodyPost_ret (v := .tuple #[.agg #[.int .i64 k1, .string (tx t1), .int .i64 n1, .int .i64 p1], .int .i64 (sz1 : Int), .int .i64 e1]) (by simp [results, Tryz.results80, go_sem, l1, l2, l3, l4]) rfl ⟨rfl, l5⟩
set_option maxHeartbeats 4000000 in
theorem first_num (s : ByteArray) (w : World) (hE : Env w) (h0 : 0 < s.size) (hs : s.size ≤ 16384) (hn : ltr s[0] = false) (h : dgt s[0] = true ∨ ((s[0].toNat : Int) == 45) = true) : Calls Tryz.prog 80 #[.string s] w (TokOut (numV (bl s)) w) := by
  have cL := Lib.hid (isLetter_any s[0])
  rw [hn] at cL
  have cD := Lib.hid (isDigit_any s[0])
  have cF := Lib.hid (fun w hE => number_any s w hE h0 hs)
  have hE1 := Lib.hid (hE.alloc (.cells #[.int .i64 0, .string { data := #[] }, .int .i64 0, .int .i64 0] 71))
  generalize numV (bl s) = x at *
  obtain ⟨⟨k1, t1, n1, p1⟩, sz1, e1⟩ := x
  clear hn hE
  cases hd : dgt s[0] with
  | true =>
    rw [hd] at cD
    clear h hd
    have K0 := Lib.hid (TkAt.new w z0)
    have B0 := Lib.hid ((Below.refl w.heap.size w).alloc (Nat.le_refl _) (.cells #[.int .i64 0, .string { data := #[] }, .int .i64 0, .int .i64 0] 71))
    go_enter Tryz.func80, Tryz.ntmps80
    go_wp2_with fail
    refine (cL.out _).mono ?_; rintro e w' ⟨rfl, rfl⟩
    go_wp2_with fail
    refine (cD.out _).mono ?_; rintro e w' ⟨rfl, rfl⟩
    go_wp2_with fail
    refine (cF.out _ hE1.out).mono ?_; rintro e W1 ⟨rfl, hB⟩
    have K1 := Lib.hid (K0.out.keep hB)
    have B1 := Lib.hid (B0.out.trans (hB.mono B0.out.size))
    have B2 := Lib.hid (below_setTk B1.out (Nat.le_refl _) ⟨k1, t1, n1, p1⟩)
    have K2 := K1.out
    have K3 := Lib.hid (K1.out.set ⟨k1, t1, n1, p1⟩)
    clear K0 B0 hB
    obtain ⟨j0, ⟨j1, j2, j3, j4⟩, j5, j6, j7, j8⟩ := K2
    unfold tkV
    go_wp2_with fail
    have l1 : ((((W1.setCell ⟨w.heap.size, 0, none⟩ (.int .i64 k1)).setCell ⟨w.heap.size, 1, none⟩ (.string (tx t1))).setCell ⟨w.heap.size, 2, none⟩ (.int .i64 n1)).setCell ⟨w.heap.size, 3, none⟩ (.int .i64 p1)).cell? ⟨w.heap.size, 0, none⟩ = some (.int .i64 k1) := K3.out.2.1.1
    have l2 : ((((W1.setCell ⟨w.heap.size, 0, none⟩ (.int .i64 k1)).setCell ⟨w.heap.size, 1, none⟩ (.string (tx t1))).setCell ⟨w.heap.size, 2, none⟩ (.int .i64 n1)).setCell ⟨w.heap.size, 3, none⟩ (.int .i64 p1)).cell? ⟨w.heap.size, 1, none⟩ = some (.string (tx t1)) := K3.out.2.1.2.1
    have l3 : ((((W1.setCell ⟨w.heap.size, 0, none⟩ (.int .i64 k1)).setCell ⟨w.heap.size, 1, none⟩ (.string (tx t1))).setCell ⟨w.heap.size, 2, none⟩ (.int .i64 n1)).setCell ⟨w.heap.size, 3, none⟩ (.int .i64 p1)).cell? ⟨w.heap.size, 2, none⟩ = some (.int .i64 n1) := K3.out.2.1.2.2.1
    have l4 : ((((W1.setCell ⟨w.heap.size, 0, none⟩ (.int .i64 k1)).setCell ⟨w.heap.size, 1, none⟩ (.string (tx t1))).setCell ⟨w.heap.size, 2, none⟩ (.int .i64 n1)).setCell ⟨w.heap.size, 3, none⟩ (.int .i64 p1)).cell? ⟨w.heap.size, 3, none⟩ = some (.int .i64 p1) := K3.out.2.1.2.2.2
    have l5 : Below w.heap.size w ((((W1.setCell ⟨w.heap.size, 0, none⟩ (.int .i64 k1)).setCell ⟨w.heap.size, 1, none⟩ (.string (tx t1))).setCell ⟨w.heap.size, 2, none⟩ (.int .i64 n1)).setCell ⟨w.heap.size, 3, none⟩ (.int .i64 p1)) := B2.out
    clear K1 K3 B1 B2 j0 j1 j2 j3 j4 j5 j6 j7 j8
    generalize (((W1.setCell ⟨w.heap.size, 0, none⟩ (.int .i64 k1)).setCell ⟨w.heap.size, 1, none⟩ (.string (tx t1))).setCell ⟨w.heap.size, 2, none⟩ (.int .i64 n1)).setCell ⟨w.heap.size, 3, none⟩ (.int .i64 p1) = W9 at *
    exact bodyPost_ret (v := .tuple #[.agg #[.int .i64 k1, .string (tx t1), .int .i64 n1, .int .i64 p1], .int .i64 (sz1 : Int), .int .i64 e1]) (by simp [results, Tryz.results80, go_sem, l1, l2, l3, l4]) rfl ⟨rfl, l5⟩
  | false =>
    rw [hd] at cD h
    have h45 : ((s[0].toNat : Int) == 45) = true := by
      rcases h with h | h
      · cases h
      · exact h
    clear h hd
    have K0 := Lib.hid (TkAt.new w z0)
    have B0 := Lib.hid ((Below.refl w.heap.size w).alloc (Nat.le_refl _) (.cells #[.int .i64 0, .string { data := #[] }, .int .i64 0, .int .i64 0] 71))
    go_enter Tryz.func80, Tryz.ntmps80
    go_wp2_with fail
    refine (cL.out _).mono ?_; rintro e w' ⟨rfl, rfl⟩
    go_wp2_with fail
    refine (cD.out _).mono ?_; rintro e w' ⟨rfl, rfl⟩
    go_wp2_with fail
    refine (cF.out _ hE1.out).mono ?_; rintro e W1 ⟨rfl, hB⟩
    have K1 := Lib.hid (K0.out.keep hB)
    have B1 := Lib.hid (B0.out.trans (hB.mono B0.out.size))
    have B2 := Lib.hid (below_setTk B1.out (Nat.le_refl _) ⟨k1, t1, n1, p1⟩)
    have K2 := K1.out
    have K3 := Lib.hid (K1.out.set ⟨k1, t1, n1, p1⟩)
    clear K0 B0 hB
    obtain ⟨j0, ⟨j1, j2, j3, j4⟩, j5, j6, j7, j8⟩ := K2
    unfold tkV
    go_wp2_with fail
    have l1 : ((((W1.setCell ⟨w.heap.size, 0, none⟩ (.int .i64 k1)).setCell ⟨w.heap.size, 1, none⟩ (.string (tx t1))).setCell ⟨w.heap.size, 2, none⟩ (.int .i64 n1)).setCell ⟨w.heap.size, 3, none⟩ (.int .i64 p1)).cell? ⟨w.heap.size, 0, none⟩ = some (.int .i64 k1) := K3.out.2.1.1
    have l2 : ((((W1.setCell ⟨w.heap.size, 0, none⟩ (.int .i64 k1)).setCell ⟨w.heap.size, 1, none⟩ (.string (tx t1))).setCell ⟨w.heap.size, 2, none⟩ (.int .i64 n1)).setCell ⟨w.heap.size, 3, none⟩ (.int .i64 p1)).cell? ⟨w.heap.size, 1, none⟩ = some (.string (tx t1)) := K3.out.2.1.2.1
    have l3 : ((((W1.setCell ⟨w.heap.size, 0, none⟩ (.int .i64 k1)).setCell ⟨w.heap.size, 1, none⟩ (.string (tx t1))).setCell ⟨w.heap.size, 2, none⟩ (.int .i64 n1)).setCell ⟨w.heap.size, 3, none⟩ (.int .i64 p1)).cell? ⟨w.heap.size, 2, none⟩ = some (.int .i64 n1) := K3.out.2.1.2.2.1
    have l4 : ((((W1.setCell ⟨w.heap.size, 0, none⟩ (.int .i64 k1)).setCell ⟨w.heap.size, 1, none⟩ (.string (tx t1))).setCell ⟨w.heap.size, 2, none⟩ (.int .i64 n1)).setCell ⟨w.heap.size, 3, none⟩ (.int .i64 p1)).cell? ⟨w.heap.size, 3, none⟩ = some (.int .i64 p1) := K3.out.2.1.2.2.2
    have l5 : Below w.heap.size w ((((W1.setCell ⟨w.heap.size, 0, none⟩ (.int .i64 k1)).setCell ⟨w.heap.size, 1, none⟩ (.string (tx t1))).setCell ⟨w.heap.size, 2, none⟩ (.int .i64 n1)).setCell ⟨w.heap.size, 3, none⟩ (.int .i64 p1)) := B2.out
    clear K1 K3 B1 B2 j0 j1 j2 j3 j4 j5 j6 j7 j8
    generalize (((W1.setCell ⟨w.heap.size, 0, none⟩ (.int .i64 k1)).setCell ⟨w.heap.size, 1, none⟩ (.string (tx t1))).setCell ⟨w.heap.size, 2, none⟩ (.int .i64 n1)).setCell ⟨w.heap.size, 3, none⟩ (.int .i64 p1) = W9 at *
    exact bodyPost_ret (v := .tuple #[.agg #[.int .i64 k1, .string (tx t1), .int .i64 n1, .int .i64 p1], .int .i64 (sz1 : Int), .int .i64 e1]) (by simp [results, Tryz.results80, go_sem, l1, l2, l3, l4]) rfl ⟨rfl, l5⟩
set_option maxHeartbeats 4000000 in
theorem first_hour (s : ByteArray) (w : World) (hE : Env w) (h0 : 0 < s.size) (hs : s.size ≤ 16384) (hn : ltr s[0] = false) (hd : dgt s[0] = false) (h45 : ((s[0].toNat : Int) == 45) = false) (h64 : ((s[0].toNat : Int) == 64) = true) : Calls Tryz.prog 80 #[.string s] w (TokOut (hrV (bl s)) w) := by
  have cL := Lib.hid (isLetter_any s[0])
  rw [hn] at cL
  have cD := Lib.hid (isDigit_any s[0])
  rw [hd] at cD
  have cF := Lib.hid (fun w hE => hour_any s w hE h0 hs)
  have hE1 := Lib.hid (hE.alloc (.cells #[.int .i64 0, .string { data := #[] }, .int .i64 0, .int .i64 0] 71))
  generalize hrV (bl s) = x at *
  obtain ⟨⟨k1, t1, n1, p1⟩, sz1, e1⟩ := x
  clear hn hE hd
  have K0 := Lib.hid (TkAt.new w z0)
  have B0 := Lib.hid ((Below.refl w.heap.size w).alloc (Nat.le_refl _) (.cells #[.int .i64 0, .string { data := #[] }, .int .i64 0, .int .i64 0] 71))
  go_enter Tryz.func80, Tryz.ntmps80
  go_wp2_with fail
  refine (cL.out _).mono ?_; rintro e w' ⟨rfl, rfl⟩
  go_wp2_with fail
  refine (cD.out _).mono ?_; rintro e w' ⟨rfl, rfl⟩
  go_wp2_with fail
  refine (cF.out _ hE1.out).mono ?_; rintro e W1 ⟨rfl, hB⟩
  have K1 := Lib.hid (K0.out.keep hB)
  have B1 := Lib.hid (B0.out.trans (hB.mono B0.out.size))
  have B2 := Lib.hid (below_setTk B1.out (Nat.le_refl _) ⟨k1, t1, n1, p1⟩)
  have K2 := K1.out
  have K3 := Lib.hid (K1.out.set ⟨k1, t1, n1, p1⟩)
  clear K0 B0 hB
  obtain ⟨j0, ⟨j1, j2, j3, j4⟩, j5, j6, j7, j8⟩ := K2
  unfold tkV
  go_wp2_with fail
  have l1 : ((((W1.setCell ⟨w.heap.size, 0, none⟩ (.int .i64 k1)).setCell ⟨w.heap.size, 1, none⟩ (.string (tx t1))).setCell ⟨w.heap.size, 2, none⟩ (.int .i64 n1)).setCell ⟨w.heap.size, 3, none⟩ (.int .i64 p1)).cell? ⟨w.heap.size, 0, none⟩ = some (.int .i64 k1) := K3.out.2.1.1
  have l2 : ((((W1.setCell ⟨w.heap.size, 0, none⟩ (.int .i64 k1)).setCell ⟨w.heap.size, 1, none⟩ (.string (tx t1))).setCell ⟨w.heap.size, 2, none⟩ (.int .i64 n1)).setCell ⟨w.heap.size, 3, none⟩ (.int .i64 p1)).cell? ⟨w.heap.size, 1, none⟩ = some (.string (tx t1)) := K3.out.2.1.2.1
  have l3 : ((((W1.setCell ⟨w.heap.size, 0, none⟩ (.int .i64 k1)).setCell ⟨w.heap.size, 1, none⟩ (.string (tx t1))).setCell ⟨w.heap.size, 2, none⟩ (.int .i64 n1)).setCell ⟨w.heap.size, 3, none⟩ (.int .i64 p1)).cell? ⟨w.heap.size, 2, none⟩ = some (.int .i64 n1) := K3.out.2.1.2.2.1
  have l4 : ((((W1.setCell ⟨w.heap.size, 0, none⟩ (.int .i64 k1)).setCell ⟨w.heap.size, 1, none⟩ (.string (tx t1))).setCell ⟨w.heap.size, 2, none⟩ (.int .i64 n1)).setCell ⟨w.heap.size, 3, none⟩ (.int .i64 p1)).cell? ⟨w.heap.size, 3, none⟩ = some (.int .i64 p1) := K3.out.2.1.2.2.2
  have l5 : Below w.heap.size w ((((W1.setCell ⟨w.heap.size, 0, none⟩ (.int .i64 k1)).setCell ⟨w.heap.size, 1, none⟩ (.string (tx t1))).setCell ⟨w.heap.size, 2, none⟩ (.int .i64 n1)).setCell ⟨w.heap.size, 3, none⟩ (.int .i64 p1)) := B2.out
  clear K1 K3 B1 B2 j0 j1 j2 j3 j4 j5 j6 j7 j8
  generalize (((W1.setCell ⟨w.heap.size, 0, none⟩ (.int .i64 k1)).setCell ⟨w.heap.size, 1, none⟩ (.string (tx t1))).setCell ⟨w.heap.size, 2, none⟩ (.int .i64 n1)).setCell ⟨w.heap.size, 3, none⟩ (.int .i64 p1) = W9 at *
  exact bodyPost_ret (v := .tuple #[.agg #[.int .i64 k1, .string (tx t1), .int .i64 n1, .int .i64 p1], .int .i64 (sz1 : Int), .int .i64 e1]) (by simp [results, Tryz.results80, go_sem, l1, l2, l3, l4]) rfl ⟨rfl, l5⟩
set_option maxHeartbeats 4000000 in
theorem first_mark (s : ByteArray) (w : World) (h0 : 0 < s.size) (hs : s.size ≤ 16384) (hn : ltr s[0] = false) (hd : dgt s[0] = false) (h45 : ((s[0].toNat : Int) == 45) = false) (h64 : ((s[0].toNat : Int) == 64) = false) :
    Calls Tryz.prog 80 #[.string s] w (TokOut (if markB ((bl s).take 1) = true then (⟨4, (bl s).take 1, 0, 0⟩, 1, 0) else (z0, 0, 5)) w) := by
  have cL := Lib.hid (isLetter_any s[0])
  rw [hn] at cL
  have cD := Lib.hid (isDigit_any s[0])
  rw [hd] at cD
  have he := tx_extract s 0 1 (by omega)
  rw [List.drop_zero] at he
  have cM := Lib.hid (isMark_any (s.extract 0 1))
  rw [bl_take s 1 (by omega)] at cM
  obtain ⟨t, ht⟩ : ∃ t, s.extract 0 1 = t := ⟨_, rfl⟩
  rw [ht] at he cM
  have hle1 : (1 : Int) ≤ (s.size : Int) := by omega
  have e1 : ∀ w, (Instr.slice 9 (.string s) none (some (.int .i64 1)) none).run Tryz.prog w = .ok (.string t) w := fun w => by
    rw [run_slice_string_h w _ s Tryz.underlying9 .i64 1 (by omega) hle1, show (1 : Int).toNat = 1 from rfl, ht]
  generalize (bl s).take 1 = u at *
  have he' := Lib.hid he
  clear ht hn hd he
  cases hm : markB u with
  | true =>
    rw [hm] at cM
    rw [if_pos rfl]
    clear hm
    go_enter Tryz.func80, Tryz.ntmps80
    go_wp2_with fail
    refine (cL.out _).mono ?_; rintro e w' ⟨rfl, rfl⟩
    go_wp2_with fail
    refine (cD.out _).mono ?_; rintro e w' ⟨rfl, rfl⟩
    go_wp2_with fail
    refine (cM.out _).mono ?_; rintro e w' ⟨rfl, rfl⟩
    go_wp2_with fail
    exact bodyPost_ret (v := .tuple #[.agg #[.int .i64 4, .string t, .int .i64 0, .int .i64 0], .int .i64 1, .int .i64 0]) (by simp [results, Tryz.results80, go_sem]) rfl ⟨by rw [he'.out]; rfl, (Below.refl _ _).alloc (Nat.le_refl _) _⟩
  | false =>
    rw [hm] at cM
    rw [if_neg (by simp)]
    clear hm
    go_enter Tryz.func80, Tryz.ntmps80
    go_wp2_with fail
    refine (cL.out _).mono ?_; rintro e w' ⟨rfl, rfl⟩
    go_wp2_with fail
    refine (cD.out _).mono ?_; rintro e w' ⟨rfl, rfl⟩
    go_wp2_with fail
    refine (cM.out _).mono ?_; rintro e w' ⟨rfl, rfl⟩
    go_wp2_with fail
    exact bodyPost_ret (v := .tuple #[.agg #[.int .i64 0, .string { data := #[] }, .int .i64 0, .int .i64 0], .int .i64 0, .int .i64 5]) (by simp [results, Tryz.results80, go_sem]) rfl ⟨rfl, (Below.refl _ _).alloc (Nat.le_refl _) _⟩
set_option maxHeartbeats 1000000 in
theorem first_any (s : ByteArray) (w : World) (hE : Env w) (h0 : 0 < s.size) (hs : s.size ≤ 16384) : Calls Tryz.prog 80 #[.string s] w (TokOut (firstV (bl s)) w) := by
  unfold firstV
  rw [bl_get s 0 h0]
  cases h1 : ltr s[0] with
  | true => rw [if_pos rfl]; exact first_word s w h0 hs h1
  | false =>
    rw [if_neg (by simp)]
    by_cases h45 : s[0].toNat = 45
    · rw [if_pos (.inr h45)]
      exact first_num s w hE h0 hs h1 (.inr (by simp; omega))
    · cases h2 : dgt s[0] with
      | true => rw [if_pos (.inl rfl)]; exact first_num s w hE h0 hs h1 (.inl h2)
      | false =>
        rw [if_neg (by simp [h45])]
        by_cases h64 : s[0].toNat = 64
        · rw [if_pos h64]
          exact first_hour s w hE h0 hs h1 h2 (by simp; omega) (by simp; omega)
        · rw [if_neg h64]
          exact first_mark s w h0 hs h1 h2 (by simp; omega) (by simp; omega)
end Go.Proofs.YtjmipikahaoblaaGreatDoor.Lx
namespace Go.Proofs.YtjmipikahaoblaaGreatDoor.Lx
open Go.RowKit Go.Lib Go.Proofs.YtjmipikahaoblaaGreatDoor.Bas Go.Proofs.YtjmipikahaoblaaGreatDoor.Cal
set_option linter.unusedVariables false

def tk (L : List Tk) (i : Nat) : Tk := L.getD i z0
theorem tk_at (L : List Tk) (i : Nat) (h : i < L.length) : tk L i = L[i] := by
  unfold tk; rw [List.getD_eq_getElem?_getD, List.getElem?_eq_getElem h]; rfl
/-- The value reads as the tokens l, in this world. -/
def TksAt (w : World) (v : Value) (l : List Tk) : Prop :=
  ∃ p c, v = .slice p l.length c ∧ (l.length ≤ c ∧ (p = none → c = 0)) ∧ (0 < l.length → ∃ b off, p = some ⟨b, off, none⟩ ∧ ∀ j, j < l.length → w.cell? ⟨b, off + j * 4, none⟩ = some (.int .i64 (tk l j).k) ∧ w.cell? ⟨b, off + j * 4 + 1, none⟩ = some (.string (tx (tk l j).t)) ∧ w.cell? ⟨b, off + j * 4 + 2, none⟩ = some (.int .i64 (tk l j).n) ∧ w.cell? ⟨b, off + j * 4 + 3, none⟩ = some (.int .i64 (tk l j).p))
theorem TksAt.below {w w' : World} {v : Value} {l : List Tk} (h : TksAt w v l) (hb : Below w.heap.size w w') : TksAt w' v l := by
  obtain ⟨p, c, rfl, hc, hp⟩ := h
  refine ⟨p, c, rfl, hc, fun h0 => ?_⟩
  obtain ⟨b, off, rfl, hh⟩ := hp h0
  have hlt : b < w.heap.size := World.block_lt_of_cell? _ _ (hh 0 h0).1
  exact ⟨b, off, rfl, fun j hj => by rw [hb.cell (p := ⟨b, off + j * 4, none⟩) hlt, hb.cell (p := ⟨b, off + j * 4 + 1, none⟩) hlt, hb.cell (p := ⟨b, off + j * 4 + 2, none⟩) hlt, hb.cell (p := ⟨b, off + j * 4 + 3, none⟩) hlt]; exact hh j hj⟩
theorem tksAt_nil (w : World) : TksAt w (.slice none 0 0) [] := ⟨none, 0, rfl, ⟨Nat.le_refl _, fun _ => rfl⟩, fun h => by simp at h⟩
/-- The cells of tokens. -/
def flat4 (L : List Tk) : List Value := L.flatMap fun p => [.int .i64 p.k, .string (tx p.t), .int .i64 p.n, .int .i64 p.p]
theorem flat4_cons (p : Tk) (r : List Tk) : flat4 (p :: r) = .int .i64 p.k :: .string (tx p.t) :: .int .i64 p.n :: .int .i64 p.p :: flat4 r := by simp [flat4]
theorem flat4_length (L : List Tk) : (flat4 L).length = L.length * 4 := by
  induction L with
  | nil => rfl
  | cons p r ih => rw [flat4_cons]; simp only [List.length_cons]; omega
theorem flat4_append (L M : List Tk) : flat4 (L ++ M) = flat4 L ++ flat4 M := by simp [flat4]
theorem flat4_at (L : List Tk) : ∀ (i : Nat) (h : i < L.length), (flat4 L)[i * 4]? = some (.int .i64 L[i].k) ∧ (flat4 L)[i * 4 + 1]? = some (.string (tx L[i].t)) ∧ (flat4 L)[i * 4 + 2]? = some (.int .i64 L[i].n) ∧ (flat4 L)[i * 4 + 3]? = some (.int .i64 L[i].p) := by
  induction L with
  | nil => intro i h; simp at h
  | cons p r ih =>
    intro i h
    rw [flat4_cons]
    cases i with
    | zero => simp
    | succ i =>
      have := ih i (by simpa using h)
      rw [show (i + 1) * 4 = i * 4 + 1 + 1 + 1 + 1 by omega]
      simpa using this
theorem flat4_of (L : List Tk) (j : Nat) (u : Value) (h : (flat4 L)[j]? = some u) : ∃ i, i < L.length ∧ ((j = i * 4 ∧ u = .int .i64 (tk L i).k) ∨ (j = i * 4 + 1 ∧ u = .string (tx (tk L i).t)) ∨ (j = i * 4 + 2 ∧ u = .int .i64 (tk L i).n) ∨ (j = i * 4 + 3 ∧ u = .int .i64 (tk L i).p)) := by
  have hj : j < L.length * 4 := by
    have := (List.getElem?_eq_some_iff.1 h).1
    rw [flat4_length] at this; exact this
  have a := flat4_at L (j / 4) (by omega)
  refine ⟨j / 4, by omega, ?_⟩
  rw [tk_at L (j / 4) (by omega)]
  have hm : j % 4 = 0 ∨ j % 4 = 1 ∨ j % 4 = 2 ∨ j % 4 = 3 := by omega
  rcases hm with e | e | e | e
  · left
    have e2 : j = j / 4 * 4 := by omega
    rw [e2, a.1] at h
    exact ⟨e2, (Option.some.inj h).symm⟩
  · right; left
    have e2 : j = j / 4 * 4 + 1 := by omega
    rw [e2, a.2.1] at h
    exact ⟨e2, (Option.some.inj h).symm⟩
  · right; right; left
    have e2 : j = j / 4 * 4 + 2 := by omega
    rw [e2, a.2.2.1] at h
    exact ⟨e2, (Option.some.inj h).symm⟩
  · right; right; right
    have e2 : j = j / 4 * 4 + 3 := by omega
    rw [e2, a.2.2.2] at h
    exact ⟨e2, (Option.some.inj h).symm⟩
/-- A row of tokens of the call's own. -/
def TRow (B : Nat) (w : World) (v : Value) (L : List Tk) : Prop := w.ownsRow B 71 4 v L.length (flat4 L)
theorem trow_nil (B : Nat) (w : World) : TRow B w (.slice none 0 0) [] := World.ownsRow_nil w B _ 4
theorem TRow.at {B : Nat} {w : World} {v : Value} {L : List Tk} (h : TRow B w v L) : TksAt w v L := by
  have hlt := World.ownsRow.lt h
  rcases h.2 with ⟨rfl, h0⟩ | ⟨g, cap, cur, rfl, hb, hg, hnc, _⟩
  · exact ⟨none, 0, by rw [h0], ⟨by omega, fun _ => rfl⟩, fun h => by omega⟩
  · refine ⟨_, _, rfl, ⟨hnc, fun e => by cases e⟩, fun _ => ⟨g, 0, rfl, fun i hi => ?_⟩⟩
    have := flat4_at L i hi
    rw [Nat.zero_add, tk_at L i hi, World.ownsRow.cellAt h (i * 4) (by omega), World.ownsRow.cellAt h (i * 4 + 1) (by omega), World.ownsRow.cellAt h (i * 4 + 2) (by omega), World.ownsRow.cellAt h (i * 4 + 3) (by omega)]
    exact this
theorem TRow.below {B C : Nat} {w w' : World} {v : Value} {L : List Tk} (h : TRow B w v L) (hb : Below C w w') (hC : ∀ g, v.ownBlock = some g → g < C) : TRow B w' v L := by
  obtain ⟨h1, h2⟩ := h
  refine ⟨h1, ?_⟩
  rcases h2 with h2 | ⟨g, cap, cur, hv, hg, hh, r⟩
  · exact Or.inl h2
  · exact Or.inr ⟨g, cap, cur, hv, hg, by rw [hb.block g (hC g (by subst hv; rfl))]; exact hh, r⟩
theorem TRow.keep {B : Nat} {w w' : World} {v : Value} {L : List Tk} (h : TRow B w v L) (hb : Below w.heap.size w w') : TRow B w' v L :=
  h.below hb fun g hg => (World.ownsRow.lt h g hg).2
theorem TRow.mono {B B' : Nat} {w : World} {v : Value} {L : List Tk} (h : TRow B w v L) (hB : B' ≤ B) : TRow B' w v L := Go.Joins.ownsRow_le h hB
theorem TRow.block {B : Nat} {w : World} {v : Value} {L : List Tk} (h : TRow B w v L) : ∀ g, v.ownBlock = some g → B ≤ g ∧ g < w.heap.size := World.ownsRow.lt h
theorem TRow.alloc {B : Nat} {w : World} {v : Value} {L : List Tk} (h : TRow B w v L) (o : Obj) : TRow B (w.alloc o) v L := World.ownsRow.alloc h o
/-- A store into another block. -/
theorem TRow.other {B b o : Nat} {w : World} {v : Value} {L : List Tk} (h : TRow B w v L) (hb : v.ownBlock ≠ some b) (u : Value) : TRow B (w.setCell ⟨b, o, none⟩ u) v L := by
  obtain ⟨h1, h2⟩ := h
  refine ⟨h1, ?_⟩
  rcases h2 with h2 | ⟨g, cap, cur, hv, hg, hh, r⟩
  · exact Or.inl h2
  · refine Or.inr ⟨g, cap, cur, hv, hg, ?_, r⟩
    rw [Below.heap_setCell _ _ _ _ (fun e => hb (by subst hv; rw [show g = b from e]; rfl))]; exact hh
theorem info_token : ∃ i, Tryz.prog.info? 71 = some i ∧ i.zero = some (.agg #[.int .i64 0, .string { data := #[] }, .int .i64 0, .int .i64 0]) ∧ i.size = 4 ∧ i.bytes = 40 := by
  cases hh : Tryz.prog.info? 71 with
  | none =>
    have h : (Tryz.prog.info? 71).isSome = true := by kernel_rfl
    rw [hh] at h; cases h
  | some i =>
    have h1 : (Tryz.prog.info? 71).map (fun i => i.zero) = some (some (.agg #[.int .i64 0, .string { data := #[] }, .int .i64 0, .int .i64 0])) := by kernel_rfl
    have h2 : (Tryz.prog.info? 71).map (fun i => (i.size, i.bytes)) = some (4, 40) := by kernel_rfl
    rw [hh] at h1 h2
    simp only [Option.map_some, Option.some.injEq, Prod.mk.injEq] at h1 h2
    exact ⟨i, rfl, h1, h2.1, h2.2⟩
/-- append of tokens that lie in this world. -/
theorem wpList_append_tokens {w : World} {ops : Array Oper} {rest : List Oper} {o : Oper} {a : Act} {Q : Exit → Act → World → Prop} (hgd : o.guard = none) (s x : Operand)
    (ho : o.op = .call { callee := .builtin .append, args := #[s, x], argTypes := #[47, 47] })
    (B : Nat) (v : Value) (L : List Tk) (hs : a.eval s = v) (hrow : TRow B w v L) (u : Value) (M : List Tk) (hx : a.eval x = u) (hM : TksAt w u M)
    (hlen : L.length + M.length ≤ 1000000) (hB : B ≤ w.heap.size)
    (h : ∀ v' w', TRow B w' v' (L ++ M) → w.grownBy w' v.ownBlock → wpList Tryz.prog ops Q rest (a.put o.dst v') w') : wpList Tryz.prog ops Q (o :: rest) a w := by
  obtain ⟨i, hi, hz, hsz, hby⟩ := info_token
  obtain ⟨p, c, rfl, hcap, hp⟩ := hM
  cases p with
  | none =>
    have hM0 : M = [] := by
      cases M with
      | nil => rfl
      | cons x r => obtain ⟨b, off, e, _⟩ := hp (by simp); cases e
    subst hM0
    obtain rfl := hcap.2 rfl
    refine wpList_append_own_none hgd s x 47 ho B 71 i 4 Tryz.underlying47 hi v L.length (flat4 L) hs hrow hx (h v w (by rw [List.append_nil]; exact hrow) (World.grownBy.refl w _))
  | some ad =>
    have hcell : ∀ j y, (flat4 M)[j]? = some y → w.cell? (ad.add j) = some y := fun j y hj => by
      obtain ⟨k, hk, hh⟩ := flat4_of M j y hj
      obtain ⟨b, off, e, hc⟩ := hp (by omega)
      cases e
      rcases hh with ⟨rfl, rfl⟩ | ⟨rfl, rfl⟩ | ⟨rfl, rfl⟩ | ⟨rfl, rfl⟩
      · rw [Go.WideShapes.add_plain]; exact (hc k hk).1
      · rw [Go.WideShapes.add_plain, ← Nat.add_assoc]; exact (hc k hk).2.1
      · rw [Go.WideShapes.add_plain, ← Nat.add_assoc]; exact (hc k hk).2.2.1
      · rw [Go.WideShapes.add_plain, ← Nat.add_assoc]; exact (hc k hk).2.2.2
    refine wpList_append_own _ hgd s x 47 ho B 71 i (.agg #[.int .i64 0, .string { data := #[] }, .int .i64 0, .int .i64 0]) 4 40 Tryz.underlying47 hi hz hsz hby rfl (by decide) v L.length (flat4 L) hs hrow ad M.length c (flat4 M) hx (flat4_length M) hcell ?_ (by unfold maxLen; omega) (by omega) hB ?_
    · intro y hy
      obtain ⟨j, hj⟩ := List.getElem?_of_mem hy
      obtain ⟨k, hk, ⟨_, rfl⟩ | ⟨_, rfl⟩ | ⟨_, rfl⟩ | ⟨_, rfl⟩⟩ := flat4_of M j y hj <;> rfl
    · intro v' w' hown hg _
      refine h v' w' ?_ hg
      unfold TRow
      rw [List.length_append, flat4_append]
      exact hown
/-- One token that was just laid. -/
theorem token_one (w : World) (x : Tk) : TksAt (w.alloc (.cells #[.int .i64 x.k, .string (tx x.t), .int .i64 x.n, .int .i64 x.p] 71)) (.slice (some ⟨w.heap.size, 0, none⟩) 1 1) [x] :=
  ⟨_, _, rfl, ⟨Nat.le_refl _, fun e => by cases e⟩, fun _ => ⟨w.heap.size, 0, rfl, fun j hj => by
    obtain rfl : j = 0 := by simpa using hj
    simp [tk]⟩⟩
end Go.Proofs.YtjmipikahaoblaaGreatDoor.Lx
namespace Go.Proofs.YtjmipikahaoblaaGreatDoor.Syn
open Go.RowKit Go.Lib Go.Proofs.YtjmipikahaoblaaGreatDoor.Bas Go.Proofs.YtjmipikahaoblaaGreatDoor.Cal Go.Proofs.YtjmipikahaoblaaGreatDoor.Lx Go.Proofs.YtjmipikahaoblaaGreatDoor.Sc
set_option linter.unusedVariables false

/-- From the row v in w to the row u in w': nothing of before has changed but v's own block; u lies in it, or in a new one. -/
structure Own (v : Value) (w : World) (u : Value) (w' : World) : Prop where
  g : w.grownBy w' v.ownBlock
  n : ∀ k, u.ownBlock = some k → v.ownBlock = some k ∨ w.heap.size ≤ k
theorem Own.size {v u : Value} {w w' : World} (h : Own v w u w') : w.heap.size ≤ w'.heap.size := h.g.size
theorem Own.refl (v : Value) (w : World) : Own v w v w := ⟨⟨rfl, rfl, rfl, Nat.le_refl _, fun _ _ _ => rfl⟩, fun k hk => .inl hk⟩
theorem Own.trans {v u x : Value} {w w' w2 : World} (h : Own v w u w') (k : Own u w' x w2) : Own v w x w2 := by
  obtain ⟨⟨a1, a2, a3, a4, a5⟩, an⟩ := h
  obtain ⟨⟨b1, b2, b3, b4, b5⟩, bn⟩ := k
  refine ⟨⟨b1.trans a1, b2.trans a2, b3.trans a3, Nat.le_trans a4 b4, fun i hi hne => ?_⟩, fun i hi => ?_⟩
  · refine (b5 i (Nat.lt_of_lt_of_le hi a4) fun e => ?_).trans (a5 i hi hne)
    rcases an i e.symm with e2 | e2
    · exact hne e2.symm
    · omega
  · rcases bn i hi with e | e
    · exact an i e
    · exact .inr (Nat.le_trans a4 e)
theorem Own.of_below (v : Value) {w w' : World} (h : Below w.heap.size w w') : Own v w v w' := ⟨⟨h.os, h.tape, h.output, h.size, fun k hk _ => h.block k hk⟩, fun k hk => .inl hk⟩
theorem Own.below {v u : Value} {w w' w2 : World} (h : Own v w u w') (hb : Below w'.heap.size w' w2) : Own v w u w2 := h.trans (Own.of_below u hb)
theorem Own.blk {v u : Value} {w w' : World} (h : Own v w u w') {B : Nat} (hv : ∀ g, v.ownBlock = some g → B ≤ g) (hB : B ≤ w.heap.size) : Below B w w' :=
  ⟨h.g.os, h.g.tape, h.g.output, h.g.size, fun k hk => h.g.block k (by omega) (fun e => by have := hv k e.symm; omega)⟩
theorem Own.nil {u : Value} {w w' : World} (h : Own (.slice none 0 0) w u w') : Below w.heap.size w w' := h.blk (fun g hg => by cases hg) (Nat.le_refl _)
/-- append of one string that was just laid. -/
theorem wpList_app_str {w : World} {ops : Array Oper} {rest : List Oper} {o : Oper} {a : Act} {Q : Exit → Act → World → Prop} (hgd : o.guard = none) (s x : Operand)
    (ho : o.op = .call { callee := .builtin .append, args := #[s, x], argTypes := #[22, 22] })
    (B : Nat) (v : Value) (L : List (List UInt8)) (hs : a.eval s = v) (hrow : SRow B w v L) (y : List UInt8) (hx : a.eval x = .slice (some ⟨w.heap.size, 0, none⟩) 1 1)
    (hlen : L.length ≤ 1099511627776) (hB : B ≤ w.heap.size)
    (h : ∀ v' w', SRow B w' v' (L ++ [y]) → Own v w v' w' → wpList Tryz.prog ops Q rest (a.put o.dst v') w') : wpList Tryz.prog ops Q (o :: rest) a (w.alloc (.cells #[.string (tx y)] 9)) := by
  obtain ⟨i0, hi, hz0, hz1, hz2⟩ := info_str
  refine wpList_append_lies _ hgd s x 22 ho B 9 i0 (.string ByteArray.empty) 1 16 Tryz.underlying22 hi hz0 hz1 hz2 rfl (by decide) v L.length (sv L) hs (World.ownsRow.alloc hrow _) ⟨w.heap.size, 0, none⟩ 1 1 [.string (tx y)] hx rfl ?_ ?_ (by decide) (by unfold maxLen; omega) (by omega) (by simp; omega) (w.heap.size + 1) (by simp) ?_
  · intro j u hu
    cases j with
    | zero => simp at hu; subst hu; simp [Addr.add]
    | succ j => simp at hu
  · intro u hu
    simp at hu; subst hu; rfl
  · intro g c w' hown hg hat hlt
    refine h _ w' ?_ ⟨grownBy_alloc hg, fun k hk => ?_⟩
    · unfold SRow sv
      rw [List.length_append, List.map_append]
      exact hown
    · have hk' : g = k := Option.some.inj hk
      rcases hat with e | e
      · exact .inl (by rw [e, ← hk'])
      · exact .inr (by omega)
/-- append of tokens, at least one, that lie in this world. -/
theorem wpList_app_toks {w : World} {ops : Array Oper} {rest : List Oper} {o : Oper} {a : Act} {Q : Exit → Act → World → Prop} (hgd : o.guard = none) (s x : Operand)
    (ho : o.op = .call { callee := .builtin .append, args := #[s, x], argTypes := #[47, 47] })
    (B : Nat) (v : Value) (L : List Tk) (hs : a.eval s = v) (hrow : TRow B w v L) (u : Value) (M : List Tk) (hx : a.eval x = u) (hM : TksAt w u M) (h0 : 0 < M.length)
    (hlen : L.length + M.length ≤ 1000000) (hB : B ≤ w.heap.size)
    (h : ∀ v' w', TRow B w' v' (L ++ M) → Own v w v' w' → wpList Tryz.prog ops Q rest (a.put o.dst v') w') : wpList Tryz.prog ops Q (o :: rest) a w := by
  obtain ⟨i, hi, hz, hsz, hby⟩ := info_token
  obtain ⟨p, c, rfl, hcap, hp⟩ := hM
  obtain ⟨b, off, rfl, hc⟩ := hp h0
  have hcell : ∀ j y, (flat4 M)[j]? = some y → w.cell? ((⟨b, off, none⟩ : Addr).add j) = some y := fun j y hj => by
    obtain ⟨k, hk, hh⟩ := flat4_of M j y hj
    rcases hh with ⟨rfl, rfl⟩ | ⟨rfl, rfl⟩ | ⟨rfl, rfl⟩ | ⟨rfl, rfl⟩
    · rw [Go.WideShapes.add_plain]; exact (hc k hk).1
    · rw [Go.WideShapes.add_plain, ← Nat.add_assoc]; exact (hc k hk).2.1
    · rw [Go.WideShapes.add_plain, ← Nat.add_assoc]; exact (hc k hk).2.2.1
    · rw [Go.WideShapes.add_plain, ← Nat.add_assoc]; exact (hc k hk).2.2.2
  refine wpList_append_lies _ hgd s x 47 ho B 71 i (.agg #[.int .i64 0, .string { data := #[] }, .int .i64 0, .int .i64 0]) 4 40 Tryz.underlying47 hi hz hsz hby rfl (by decide) v L.length (flat4 L) hs hrow ⟨b, off, none⟩ M.length c (flat4 M) hx (flat4_length M) hcell ?_ h0 (by unfold maxLen; omega) (by omega) hB w.heap.size rfl ?_
  · intro y hy
    obtain ⟨j, hj⟩ := List.getElem?_of_mem hy
    obtain ⟨k, hk, ⟨_, rfl⟩ | ⟨_, rfl⟩ | ⟨_, rfl⟩ | ⟨_, rfl⟩⟩ := flat4_of M j y hj <;> rfl
  · intro g c' w' hown hg hat hlt
    refine h _ w' ?_ ⟨hg, fun k hk => ?_⟩
    · unfold TRow
      rw [List.length_append, flat4_append]
      exact hown
    · have hk' : g = k := Option.some.inj hk
      rcases hat with e | e
      · exact .inl (by rw [e, ← hk'])
      · exact .inr (by omega)
/-- .. at a step of a region that draws its order. -/
theorem step_app_toks {w : World} {ops : Array Oper} {o : Oper} {a : Act} {K : Act → World → Prop} {Q : Exit → Act → World → Prop} {E : Prop} (hgd : o.guard = none) (s x : Operand)
    (ho : o.op = .call { callee := .builtin .append, args := #[s, x], argTypes := #[47, 47] })
    (B : Nat) (v : Value) (L : List Tk) (hs : a.eval s = v) (hrow : TRow B w v L) (u : Value) (M : List Tk) (hx : a.eval x = u) (hM : TksAt w u M) (h0 : 0 < M.length)
    (hlen : L.length + M.length ≤ 1000000) (hB : B ≤ w.heap.size)
    (h : ∀ v' w', TRow B w' v' (L ++ M) → Own v w v' w' → K (a.put o.dst v') w') : if Region.wanted o (yielded ops a.tmps) = true then Oper.wp Tryz.prog o a w K Q else E := by
  obtain ⟨i, hi, hz, hsz, hby⟩ := info_token
  obtain ⟨p, c, rfl, hcap, hp⟩ := hM
  obtain ⟨b, off, rfl, hc⟩ := hp h0
  have hcell : ∀ j y, (flat4 M)[j]? = some y → w.cell? ((⟨b, off, none⟩ : Addr).add j) = some y := fun j y hj => by
    obtain ⟨k, hk, hh⟩ := flat4_of M j y hj
    rcases hh with ⟨rfl, rfl⟩ | ⟨rfl, rfl⟩ | ⟨rfl, rfl⟩ | ⟨rfl, rfl⟩
    · rw [Go.WideShapes.add_plain]; exact (hc k hk).1
    · rw [Go.WideShapes.add_plain, ← Nat.add_assoc]; exact (hc k hk).2.1
    · rw [Go.WideShapes.add_plain, ← Nat.add_assoc]; exact (hc k hk).2.2.1
    · rw [Go.WideShapes.add_plain, ← Nat.add_assoc]; exact (hc k hk).2.2.2
  refine step_append_lies w hgd s x 47 ho B 71 i (.agg #[.int .i64 0, .string { data := #[] }, .int .i64 0, .int .i64 0]) 4 40 Tryz.underlying47 hi hz hsz hby rfl (by decide) v L.length (flat4 L) hs hrow ⟨b, off, none⟩ M.length c (flat4 M) hx (flat4_length M) hcell ?_ h0 (by unfold maxLen; omega) (by omega) hB w.heap.size rfl ?_
  · intro y hy
    obtain ⟨j, hj⟩ := List.getElem?_of_mem hy
    obtain ⟨k, hk, ⟨_, rfl⟩ | ⟨_, rfl⟩ | ⟨_, rfl⟩ | ⟨_, rfl⟩⟩ := flat4_of M j y hj <;> rfl
  · intro g c' w' hown hg hat hlt
    refine h _ w' ?_ ⟨hg, fun k hk => ?_⟩
    · unfold TRow
      rw [List.length_append, flat4_append]
      exact hown
    · have hk' : g = k := Option.some.inj hk
      rcases hat with e | e
      · exact .inl (by rw [e, ← hk'])
      · exact .inr (by omega)
end Go.Proofs.YtjmipikahaoblaaGreatDoor.Syn
