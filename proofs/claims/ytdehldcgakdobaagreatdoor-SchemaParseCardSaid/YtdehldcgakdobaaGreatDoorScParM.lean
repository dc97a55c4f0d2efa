/- What Parse is specified to return: the facts whose text it is (mathematics of lists of bytes). -/
import Derived.Test.YtdehldcgakdobaaGreatDoorScFmt
import Derived.Lib.Split
import Derived.Lib.IndexMore
import Derived.Lib.AtoiAll
import Derived.Lib.Join
namespace Go.Proofs.YtdehldcgakdobaaGreatDoor.Sc
open Go.RowKit Go.Lib Go.Proofs.YtdehldcgakdobaaGreatDoor.Bas Go.Proofs.YtdehldcgakdobaaGreatDoor.Cal Go.Proofs.YtdehldcgakdobaaGreatDoor.Lx
set_option linter.unusedVariables false

/-- The number that digits spell behind others. -/
def dvalA (acc : Nat) (l : List UInt8) : Nat := l.foldl (fun n c => n * 10 + (c.toNat - 48)) acc
theorem dvalA_cons (acc : Nat) (c : UInt8) (r : List UInt8) : dvalA acc (c :: r) = dvalA (acc * 10 + (c.toNat - 48)) r := by unfold dvalA; rw [List.foldl_cons]
theorem dvalA_nil (acc : Nat) : dvalA acc [] = acc := by unfold dvalA; rw [List.foldl_nil]
theorem dvalA_ge (l : List UInt8) : ∀ acc, acc ≤ dvalA acc l := by
  induction l with
  | nil => intro acc; rw [dvalA_nil]; exact Nat.le_refl _
  | cons c r ih =>
    intro acc
    have := ih (acc * 10 + (c.toNat - 48))
    rw [dvalA_cons]
    omega
theorem dvalA_snoc (acc : Nat) (c : UInt8) (r : List UInt8) : dvalA acc (r ++ [c]) = dvalA acc r * 10 + (c.toNat - 48) := by
  unfold dvalA; rw [List.foldl_append, List.foldl_cons, List.foldl_nil]
theorem dg_ok (u : Nat) (h : u < 10) : (UInt8.ofNat (48 + u)).toNat = 48 + u := by
  rw [UInt8.toNat_ofNat']; omega
theorem decDigits_spec : ∀ u : Nat, dvalA 0 (decDigits u) = u ∧ (∀ c ∈ decDigits u, dgt c = true) ∧ 1 ≤ (decDigits u).length := by
  intro u
  induction u using Nat.strongRecOn with
  | _ u ih =>
    rw [decDigits]
    by_cases h : u < 10
    · rw [dif_pos h]
      have e := dg_ok u h
      refine ⟨?_, ?_, by simp⟩
      · rw [dvalA_cons, dvalA_nil, e]; omega
      · intro c hc
        rw [List.mem_singleton.1 hc]
        unfold dgt
        rw [e]
        exact decide_eq_true (by omega)
    · rw [dif_neg h]
      obtain ⟨i1, i2, i3⟩ := ih (u / 10) (by omega)
      have e := dg_ok (u % 10) (by omega)
      refine ⟨?_, ?_, by simp⟩
      · rw [dvalA_snoc, i1, e]; omega
      · intro c hc
        rcases List.mem_append.1 hc with h1 | h1
        · exact i2 c h1
        · rw [List.mem_singleton.1 h1]
          unfold dgt
          rw [e]
          exact decide_eq_true (by omega)
theorem parse_digits : ∀ (l : List UInt8) (acc : Nat), (∀ c ∈ l, dgt c = true) → dvalA acc l ≤ 10000000000 → parseUint10 acc l = .ok (dvalA acc l) := by
  intro l
  induction l with
  | nil => intro acc _ _; rw [dvalA_nil]; rfl
  | cons c r ih =>
    intro acc hd hv
    have hc : 48 ≤ c.toNat ∧ c.toNat ≤ 57 := of_decide_eq_true (hd c (List.mem_cons_self ..))
    rw [dvalA_cons] at hv ⊢
    have hm := dvalA_ge r (acc * 10 + (c.toNat - 48))
    simp only [parseUint10]
    rw [if_pos hc, if_neg (by omega), if_neg (by omega)]
    exact ih _ (fun c hc => hd c (List.mem_cons_of_mem _ hc)) hv
theorem itoa_read (z : Int) (h1 : -1000000000 ≤ z) (h2 : z ≤ 1000000000) : atoiAll (itoa z) = .ok z := by
  by_cases hn : z < 0
  · have hi : itoa z = 45 :: decDigits z.natAbs := by unfold itoa; rw [if_pos hn]
    obtain ⟨a, b, c⟩ := decDigits_spec z.natAbs
    rw [hi]
    have hp : parseMag (decDigits z.natAbs) = .ok z.natAbs := by
      unfold parseMag
      rw [if_neg (by intro e; rw [e] at c; simp at c), parse_digits _ 0 b (by rw [a]; omega), a]
    have e45 : (45 : UInt8).toNat = 45 := rfl
    simp only [atoiAll, e45]
    rw [if_pos (.inr trivial), hp]
    simp only
    rw [if_neg (by simp), if_neg (by omega), if_pos trivial]
    congr 1
    omega
  · have hi : itoa z = decDigits z.toNat := by unfold itoa; rw [if_neg hn]
    obtain ⟨a, b, c⟩ := decDigits_spec z.toNat
    rw [hi]
    have hp : parseMag (decDigits z.toNat) = .ok z.toNat := by
      unfold parseMag
      rw [if_neg (by intro e; rw [e] at c; simp at c), parse_digits _ 0 b (by rw [a]; omega), a]
    cases hd : decDigits z.toNat with
    | nil => rw [hd] at c; simp at c
    | cons x r =>
      rw [hd] at hp b
      have hx : 48 ≤ x.toNat ∧ x.toNat ≤ 57 := of_decide_eq_true (b x (List.mem_cons_self ..))
      simp only [atoiAll]
      rw [if_neg (by omega), hp]
      simp
      rw [if_neg (by omega), if_neg (by omega)]
      congr 1
      omega
theorem itoa_inj {y z : Int} (h1 : -1000000000 ≤ y ∧ y ≤ 1000000000) (h2 : -1000000000 ≤ z ∧ z ≤ 1000000000) (h : itoa y = itoa z) : y = z := by
  have a := itoa_read y h1.1 h1.2
  have b := itoa_read z h2.1 h2.2
  rw [h, b] at a
  injection a with a
  exact a.symm
theorem no59_itoa (z : Int) : ∀ c ∈ itoa z, c ≠ 59 := by
  intro c hc e
  subst e
  unfold itoa at hc
  split at hc
  · rcases List.mem_cons.1 hc with h | h
    · cases h
    · have := (decDigits_spec z.natAbs).2.1 _ h; cases this
  · have := (decDigits_spec z.toNat).2.1 _ hc; cases this
theorem no59_name {l : List UInt8} (h : nameB l = true) : ∀ c ∈ l, c ≠ 59 := by
  intro c hc e
  subst e
  unfold nameB at h
  simp only [Bool.and_eq_true] at h
  have := (of_decide_eq_true h.1).2.2.2.2 _ hc
  cases this
theorem valT_w {a : At} (h : a.k = 1) (z : Int) : valT a z = a.ws.getD z.toNat [] := by unfold valT; rw [if_pos h]
theorem valT_n {a : At} (h : a.k = 2) (z : Int) : valT a z = itoa z := by unfold valT; rw [if_neg (by omega), if_pos h]
theorem valT_t {a : At} (h : a.k = 3) (z : Int) : valT a z = if z = 1 then [121, 101, 115] else [110, 111] := by unfold valT; rw [if_neg (by omega), if_neg (by omega)]
/-- A value of the domain that has this text. -/
def ReadOk (a : At) (v : List UInt8) (z : Int) : Prop := (domV a).1 ≤ z ∧ z ≤ (domV a).2 ∧ valT a z = v
theorem readOk_one {a : At} {v : List UInt8} {y z : Int} (he : attE a = 0) (h1 : ReadOk a v y) (h2 : ReadOk a v z) : y = z := by
  obtain ⟨a1, a2, a3⟩ := h1
  obtain ⟨b1, b2, b3⟩ := h2
  have hb := domV_bd a he
  rw [← b3] at a3
  rcases attE_ok a he with ⟨k1, _, _, _, _, _, hd⟩ | ⟨k1, _⟩ | ⟨k1, _⟩
  · have hdv : domV a = (0, (a.ws.length : Int) - 1) := if_pos k1
    rw [hdv] at a1 a2 b1 b2
    simp only at a1 a2 b1 b2
    rw [valT_w k1, valT_w k1] at a3
    have hD := of_decide_eq_true hd
    have hlt : ¬ y.toNat < z.toNat := fun h => hD z.toNat (by omega) y.toNat h a3.symm
    have hgt : ¬ z.toNat < y.toNat := fun h => hD y.toNat (by omega) z.toNat h a3
    omega
  · rw [valT_n k1, valT_n k1] at a3
    exact itoa_inj (by omega) (by omega) a3
  · have hdv : domV a = (0, 1) := by unfold domV; rw [if_neg (by omega), if_neg (by omega)]
    rw [hdv] at a1 a2 b1 b2
    simp only at a1 a2 b1 b2
    have hy : y = 0 ∨ y = 1 := by omega
    have hz : z = 0 ∨ z = 1 := by omega
    rw [valT_t k1, valT_t k1] at a3
    rcases hy with rfl | rfl <;> rcases hz with rfl | rfl <;> simp at a3 ⊢
theorem no59_val {a : At} {z : Int} (he : attE a = 0) (h1 : (domV a).1 ≤ z) (h2 : z ≤ (domV a).2) : ∀ c ∈ valT a z, c ≠ 59 := by
  intro c hc
  rcases attE_ok a he with ⟨k1, _, _, _, _, hn, _⟩ | ⟨k1, _⟩ | ⟨k1, _⟩
  · have hdv : domV a = (0, (a.ws.length : Int) - 1) := if_pos k1
    rw [hdv] at h1 h2
    simp only at h1 h2
    rw [valT_w k1] at hc
    exact no59_name ((of_decide_eq_true hn) z.toNat (by omega)) c hc
  · rw [valT_n k1] at hc
    exact no59_itoa z c hc
  · rw [valT_t k1] at hc
    intro e
    subst e
    split at hc <;> simp at hc
/-- The facts that have this text. -/
def Sol (L : List At) (s : List UInt8) (f : List Int) : Prop := factsB L f = true ∧ fmtP L f L.length = s
def partsV (L : List At) (f : List Int) (k : Nat) : List (List UInt8) := (List.range k).map fun i => oneT (at' L i) (f.getD i 0)
theorem partsV_len (L : List At) (f : List Int) (k : Nat) : (partsV L f k).length = k := by simp [partsV]
theorem partsV_succ (L : List At) (f : List Int) (k : Nat) : partsV L f (k + 1) = partsV L f k ++ [oneT (at' L k) (f.getD k 0)] := by simp [partsV, List.range_succ]
theorem partsV_at (L : List At) (f : List Int) (k i : Nat) (h : i < k) : (partsV L f k).getD i [] = oneT (at' L i) (f.getD i 0) := by
  simp [partsV, List.getD_eq_getElem?_getD, h]
theorem join_snoc (X : List (List UInt8)) (y s : List UInt8) : Lib.join (X ++ [y]) s = Lib.join X s ++ (if X.length = 0 then [] else s) ++ y := by
  cases X with
  | nil => simp [Lib.join_one, Lib.join_nil]
  | cons x r =>
    rw [List.cons_append, Lib.join_cons, Lib.join_cons, if_neg (by simp)]
    unfold Lib.joinTail
    simp
theorem fmtP_join (L : List At) (f : List Int) : ∀ k, fmtP L f k = Lib.join (partsV L f k) [59, 32] := by
  intro k
  induction k with
  | zero => rfl
  | succ k ih =>
    rw [partsV_succ, join_snoc, ← ih, partsV_len]
    rfl
theorem join_two (x y : List UInt8) (r : List (List UInt8)) (s : List UInt8) : Lib.join (x :: y :: r) s = x ++ (s ++ Lib.join (y :: r) s) := by
  rw [Lib.join_cons, Lib.join_cons]
  unfold Lib.joinTail
  simp
theorem index_here (p T : List UInt8) (h : ∀ c ∈ p, c ≠ 59) : index (p ++ ([59, 32] ++ T)) [59, 32] = p.length := by
  apply index_first
  · simp
  · unfold occAt
    rw [List.drop_left]
    simp [List.isPrefixOf]
  · intro j hj
    cases ho : occAt (p ++ ([59, 32] ++ T)) [59, 32] j with
    | false => rfl
    | true =>
      have := occAt_head (c := 59) (t := [32]) rfl ho
      rw [List.getElem?_append_left hj, List.getElem?_eq_getElem hj] at this
      exact absurd (Option.some.inj this) (h _ (List.getElem_mem _))
theorem split_join : ∀ (P : List (List UInt8)), 0 < P.length → (∀ p ∈ P, ∀ c ∈ p, c ≠ 59) → splitK [59, 32] 0 (P.length - 1) (Lib.join P [59, 32]) = P := by
  intro P
  induction P with
  | nil => intro h; simp at h
  | cons p r ih =>
    intro _ hp
    cases r with
    | nil => rw [Lib.join_one]; rfl
    | cons q r =>
      rw [join_two]
      have hi := index_here p (Lib.join (q :: r) [59, 32]) (hp p (List.mem_cons_self ..))
      show splitK [59, 32] 0 ((q :: r).length) _ = _
      rw [List.length_cons]
      unfold splitK
      rw [hi, if_neg (by simp)]
      have := ih (by simp) (fun x hx => hp x (List.mem_cons_of_mem _ hx))
      rw [List.length_cons, Nat.add_sub_cancel] at this
      rw [Int.toNat_natCast, Nat.add_zero, List.take_left, ← List.append_assoc, show p.length + ([59, 32] : List UInt8).length = (p ++ [59, 32]).length by simp, List.drop_left, this]
theorem splitK_pos (sep : List UInt8) (k : Nat) (s : List UInt8) : 0 < (splitK sep 0 k s).length := by
  cases k with
  | zero => simp [splitK]
  | succ k => unfold splitK; split <;> simp
theorem join_split (k : Nat) : ∀ s : List UInt8, Lib.join (splitK [59, 32] 0 k s) [59, 32] = s := by
  induction k with
  | zero => intro s; exact Lib.join_one _ _
  | succ k ih =>
    intro s
    unfold splitK
    split
    · exact Lib.join_one _ _
    · rename_i hne
      rcases index_spec s [59, 32] with ⟨h, _⟩ | ⟨i, hi, hle, ho, _⟩
      · rw [h] at hne; simp at hne
      · rw [hi, Int.toNat_natCast, Nat.add_zero]
        have hr := ih (s.drop (i + ([59, 32] : List UInt8).length))
        have hpos := splitK_pos [59, 32] k (s.drop (i + ([59, 32] : List UInt8).length))
        generalize splitK [59, 32] 0 k (s.drop (i + ([59, 32] : List UInt8).length)) = R at *
        cases R with
        | nil => simp at hpos
        | cons y r =>
          rw [join_two, hr]
          unfold occAt at ho
          obtain ⟨t, ht⟩ := List.isPrefixOf_iff_prefix.1 ho
          have : s.drop (i + ([59, 32] : List UInt8).length) = t := by
            rw [← List.drop_drop, ← ht, List.drop_left]
          rw [this, ht, List.take_append_drop]
theorem sol_parts {L : List At} {s : List UInt8} {f : List Int} (h : Sol L s f) : splitK [59, 32] 0 (L.length - 1) s = partsV L f L.length := by
  obtain ⟨hf, rfl⟩ := h
  obtain ⟨h0, h1, h2⟩ := facts_ok L f hf
  obtain ⟨n1, n6, hat⟩ := schE_ok L h0
  rw [fmtP_join]
  have := split_join (partsV L f L.length) (by rw [partsV_len]; omega) (fun p hp c hc => by
    obtain ⟨i, hi, rfl⟩ := List.mem_map.1 hp
    have hi' : i < L.length := List.mem_range.1 hi
    obtain ⟨e1, e2⟩ := atE_ok L i (hat i hi')
    unfold oneT at hc
    rcases List.mem_append.1 hc with h | h
    · exact no59_name e1 c h
    · rcases List.mem_append.1 h with h | h
      · rw [List.mem_singleton.1 h]; decide
      · exact no59_val e2 (h2 i hi').1 (h2 i hi').2 c h)
  rw [partsV_len] at this
  exact this
theorem oneT_inj {a : At} {y z : Int} (h : oneT a y = oneT a z) : valT a y = valT a z := by
  unfold oneT at h
  have h2 := List.append_cancel_left h
  exact List.append_cancel_left h2
theorem sol_one {L : List At} {s : List UInt8} {f g : List Int} (h : Sol L s f) (k : Sol L s g) : f = g := by
  have e := (sol_parts h).symm.trans (sol_parts k)
  obtain ⟨h0, h1, h2⟩ := facts_ok L f h.1
  obtain ⟨k0, k1, k2⟩ := facts_ok L g k.1
  obtain ⟨n1, n6, hat⟩ := schE_ok L h0
  apply List.ext_getElem (by omega)
  intro i p q
  have hi : i < L.length := by omega
  have ea := congrArg (fun l => List.getD l i []) e
  simp only [partsV_at _ _ _ _ hi] at ea
  have ev := oneT_inj ea
  have := readOk_one (atE_ok L i (hat i hi)).2 ⟨(h2 i hi).1, (h2 i hi).2, ev⟩ ⟨(k2 i hi).1, (k2 i hi).2, rfl⟩
  simpa [List.getD_eq_getElem?_getD, p, q] using this
end Go.Proofs.YtdehldcgakdobaaGreatDoor.Sc
