/- What was scanned can be joined, and is a fixed point (mathematics). -/
import Derived.Test.YtaengcbjpniclaaGreatDoorLxBack
namespace Go.Proofs.YtaengcbjpniclaaGreatDoor.Lx
open Go.RowKit Go.Lib Go.Proofs.YtaengcbjpniclaaGreatDoor.Bas Go.Proofs.YtaengcbjpniclaaGreatDoor.Cal
set_option linter.unusedVariables false

theorem parse_ok (s : ByteArray) (h : (parseV s).2 = 0) : 10 ≤ s.size ∧ 0 ≤ (parseV s).1 ∧ (parseV s).1 ≤ 876599 := by
  have key : ∀ y m d x : Int, (hourV y m d x).2 = 0 → 0 ≤ (hourV y m d x).1 ∧ (hourV y m d x).1 ≤ 876599 := by
    intro y m d x
    unfold hourV
    split
    · rename_i hh
      intro _
      have := num_bd y m d hh.1
      show 0 ≤ 24 * num y m d + x ∧ 24 * num y m d + x ≤ 876599
      omega
    · intro h; cases h
  unfold parseV at h ⊢
  split
  · rename_i hf
    rw [if_pos hf] at h
    exact ⟨by rw [hf.1]; decide, key _ _ _ _ h⟩
  · rename_i hf
    rw [if_neg hf] at h
    split
    · rename_i hg
      rw [if_pos hg] at h
      exact ⟨by rw [hg.1]; decide, key _ _ _ _ h⟩
    · rename_i hg
      rw [if_neg hg] at h
      cases h
theorem dec_len : ∀ (k n : Nat), n < 10 ^ (k + 1) → (decDigits n).length ≤ k + 1 := by
  intro k
  induction k with
  | zero =>
    intro n h
    rw [decDigits, dif_pos (by omega)]
    simp
  | succ k ih =>
    intro n h
    by_cases h10 : n < 10
    · rw [decDigits, dif_pos h10]; simp
    · rw [decDigits, dif_neg h10, List.length_append]
      have := ih (n / 10) (by rw [Nat.pow_succ] at h; omega)
      simp; omega
theorem dv_lt (D : List UInt8) (h : ∀ c ∈ D, dgt c = true) : ∀ a : Nat, dv a D < (a + 1) * 10 ^ D.length := by
  induction D with
  | nil => intro a; show a < _; simp
  | cons c r ih =>
    intro a
    have hc := (dgt_iff c).1 (h c (by simp))
    have h1 := ih (fun x hx => h x (by simp [hx])) (a * 10 + (c.toNat - 48))
    rw [dv_cons, List.length_cons, Nat.pow_succ]
    have h2 : (a * 10 + (c.toNat - 48) + 1) * 10 ^ r.length ≤ ((a + 1) * 10) * 10 ^ r.length := Nat.mul_le_mul_right _ (by omega)
    have h3 : ((a + 1) * 10) * 10 ^ r.length = (a + 1) * (10 ^ r.length * 10) := by rw [Nat.mul_assoc, Nat.mul_comm 10]
    omega
theorem take_spn (f : UInt8 → Bool) (l : List UInt8) : ∀ c ∈ l.take (spn f l), f c = true := by
  intro c hc
  obtain ⟨j, hj, rfl⟩ := List.getElem_of_mem hc
  rw [List.length_take] at hj
  have := spn_in f l j (by omega)
  rw [List.getD_eq_getElem?_getD, List.getElem?_eq_getElem (by omega)] at this
  rw [List.getElem_take]
  simpa using this
/-- A token that was read is valid; its text is not longer than twice what was read, less one. -/
theorem first_ok (l : List UInt8) (hl : l ≠ []) (h : (firstV l).2.2 = 0) : wrE (firstV l).1 = 0 ∧ (wr (firstV l).1).length + 1 ≤ 2 * (firstV l).2.1 := by
  revert h
  unfold firstV
  split
  · unfold wdV
    split
    · rename_i hw
      intro _
      have a := spn_le inW l
      have b := (of_decide_eq_true hw).1
      rw [List.length_take] at b
      refine ⟨by simp [wrE, hw], ?_⟩
      rw [wr_name _ (.inl rfl)]
      show (l.take (spn inW l)).length + 1 ≤ 2 * spn inW l
      rw [List.length_take]; omega
    · intro h; cases h
  · split
    · unfold numV
      split
      · intro h; cases h
      · rename_i hn
        split
        · intro h; cases h
        · rename_i hb
          intro _
          have a := spn_le dgt (l.drop (sgn l))
          rw [List.length_drop] at a
          have b : sgn l ≤ 1 := by unfold sgn; split <;> omega
          have c : numSz l = sgn l + spn dgt (l.drop (sgn l)) := rfl
          have hD : (l.take (numSz l)).drop (sgn l) = (l.drop (sgn l)).take (spn dgt (l.drop (sgn l))) := by rw [List.drop_take, c]; congr 1; omega
          have hdg := take_spn dgt (l.drop (sgn l))
          rw [← hD] at hdg
          have hDl : ((l.take (numSz l)).drop (sgn l)).length = spn dgt (l.drop (sgn l)) := by rw [hD, List.length_take, List.length_drop]; omega
          have hlt := dv_lt _ hdg 0
          rw [hDl] at hlt
          generalize dv 0 ((l.take (numSz l)).drop (sgn l)) = v at *
          obtain ⟨k, hk⟩ : ∃ k, spn dgt (l.drop (sgn l)) = k + 1 := ⟨spn dgt (l.drop (sgn l)) - 1, by omega⟩
          have hlen := dec_len k v (by rw [hk] at hlt; omega)
          have hnum : ∀ n : Int, (n = -(v : Int) ∨ n = (v : Int)) → wrE ⟨2, [], n, 0⟩ = 0 := fun n hn => by
            have h0 : -17592186044416 ≤ n := by omega
            have h1 : n ≤ 17592186044416 := by omega
            simp [wrE, h0, h1]
          have hsz : numSz l = sgn l + (k + 1) := by rw [c, hk]
          by_cases hs : sgn l = 1
          · rw [if_pos hs]
            refine ⟨hnum _ (.inl rfl), ?_⟩
            rw [wr_num _ rfl]
            show (itoa (-(v : Int))).length + 1 ≤ 2 * numSz l
            unfold itoa
            split
            · rw [List.length_cons, show (-(v : Int)).natAbs = v by omega]; omega
            · rw [show (-(v : Int)).toNat = 0 by omega]
              have h0 := dec_len 0 0 (by decide)
              omega
          · rw [if_neg hs]
            refine ⟨hnum _ (.inr rfl), ?_⟩
            rw [wr_num _ rfl]
            show (itoa (v : Int)).length + 1 ≤ 2 * numSz l
            unfold itoa
            rw [if_neg (by omega), Int.toNat_natCast]; omega
    · split
      · unfold hrV
        split
        · rename_i hh; intro h; exact absurd h hh
        · rename_i hh
          intro _
          have hh' : (parseV (tx ((l.take (hrSz l)).drop 1))).2 = 0 := by simpa using hh
          obtain ⟨p1, p2, p3⟩ := parse_ok _ hh'
          rw [tx_size, List.length_drop, List.length_take] at p1
          generalize (parseV (tx ((l.take (hrSz l)).drop 1))).1 = n at *
          refine ⟨by simp [wrE, p2, p3], ?_⟩
          rw [wr_hour _ rfl]
          have := (fmtT_size n).1
          show (64 :: bl (fmtT n)).length + 1 ≤ 2 * hrSz l
          rw [List.length_cons, bl_size]
          omega
      · split
        · rename_i hm
          intro _
          refine ⟨by simp [wrE, hm], ?_⟩
          rw [wr_name _ (.inr rfl)]
          show (l.take 1).length + 1 ≤ 2 * 1
          rw [List.length_take]; omega
        · intro h; cases h
/-- What a scan without an error adds. -/
theorem scan_ok : ∀ (n : Nat) (l : List UInt8) (at' : Nat) (acc : List Tk), l.length ≤ n → (scanL l at' acc).2.2 = 0 → ∃ M, (scanL l at' acc).1 = acc ++ M ∧ (∀ t ∈ M, wrE t = 0) ∧ M.length ≤ l.length ∧ ∀ last, (joinT last M).length ≤ 2 * l.length := by
  intro n
  induction n with
  | zero =>
    intro l at' acc hn h
    have : l = [] := List.length_eq_zero_iff.1 (by omega)
    subst this
    exact ⟨[], by rw [scanL_nil, List.append_nil], by simp, by simp, fun last => by simp [joinT]⟩
  | succ n ih =>
    intro l at' acc hn h
    by_cases hl : l = []
    · subst hl
      exact ⟨[], by rw [scanL_nil, List.append_nil], by simp, by simp, fun last => by simp [joinT]⟩
    · have h1 : 1 ≤ l.length := by cases l with | nil => exact absurd rfl hl | cons c r => simp
      rw [scanL_step l at' acc hl] at h ⊢
      have drop : ∀ k a2, 1 ≤ k → (scanL (l.drop k) a2 acc).2.2 = 0 → ∃ M, (scanL (l.drop k) a2 acc).1 = acc ++ M ∧ (∀ t ∈ M, wrE t = 0) ∧ M.length ≤ l.length ∧ ∀ last, (joinT last M).length ≤ 2 * l.length := by
        intro k a2 hk hh
        have hd : (l.drop k).length ≤ n := by rw [List.length_drop]; omega
        obtain ⟨M, e1, e2, e3, e4⟩ := ih _ a2 acc hd hh
        rw [List.length_drop] at e3 e4
        exact ⟨M, e1, e2, by omega, fun last => by have := e4 last; omega⟩
      split
      · rename_i hc
        rw [if_pos hc] at h
        exact drop 1 _ (Nat.le_refl _) h
      · rename_i hc
        rw [if_neg hc] at h
        split
        · rename_i hc2
          rw [if_pos hc2] at h
          exact drop _ _ (spnC_pos l hl hc2) h
        · rename_i hc2
          rw [if_neg hc2] at h
          split
          · rename_i he
            rw [if_pos he] at h
            exact absurd h he
          · rename_i he
            rw [if_neg he] at h
            have he0 : (firstV l).2.2 = 0 := by simpa using he
            obtain ⟨f1, f2⟩ := first_ok l hl he0
            obtain ⟨g1, g2⟩ := first_size l hl he0
            split
            · rename_i h4
              rw [if_pos h4] at h
              cases h
            · rename_i h4
              rw [if_neg h4] at h
              split
              · rename_i h5
                rw [if_pos h5] at h
                cases h
              · rename_i h5
                rw [if_neg h5] at h
                have hd : (l.drop (firstV l).2.1).length ≤ n := by rw [List.length_drop]; omega
                obtain ⟨M, e1, e2, e3, e4⟩ := ih _ _ _ hd h
                rw [List.length_drop] at e3 e4
                generalize ht : ({ (firstV l).1 with p := at' } : Tk) = t at *
                have t1 : wrE t = 0 := by rw [← ht]; exact f1
                have t2 : (wr t).length + 1 ≤ 2 * (firstV l).2.1 := by rw [← ht]; exact f2
                refine ⟨t :: M, by rw [e1, List.append_assoc]; rfl, fun x hx => ?_, by rw [List.length_cons]; omega, fun last => ?_⟩
                · rcases List.mem_cons.1 hx with rfl | hx
                  · exact t1
                  · exact e2 x hx
                · have q1 := gap_len last (wr t)
                  have q2 := e4 (wr t)
                  show (gap last (wr t) ++ (wr t ++ joinT (wr t) M)).length ≤ _
                  rw [List.length_append, List.length_append]
                  omega
theorem scanV_ok (l : List UInt8) (L : List Tk) (a : Int) (h : scanV l = (L, a, 0)) (h2 : l.length ≤ 2000) : (∀ t ∈ L, wrE t = 0) ∧ L.length ≤ 2000 ∧ (joinT [40] L).length ≤ 4000 := by
  unfold scanV at h
  rw [if_neg (by omega)] at h
  obtain ⟨M, e1, e2, e3, e4⟩ := scan_ok l.length l 0 [] (Nat.le_refl _) (by rw [h])
  rw [h] at e1
  have e1' : L = M := e1
  subst e1'
  exact ⟨e2, by omega, by have := e4 [40]; omega⟩
theorem join_same {A B : List Tk} (h : Same A B) : joinV A = joinV B := by
  have hl : A.length = B.length := by have := congrArg List.length h; simpa using this
  have hE : ∀ (A B : List Tk), Same A B → joinE A = joinE B ∧ ∀ last, joinT last A = joinT last B := by
    intro A
    induction A with
    | nil =>
      intro B h
      cases B with
      | nil => exact ⟨rfl, fun _ => rfl⟩
      | cons b B => cases h
    | cons a A ih =>
      intro B h
      cases B with
      | nil => cases h
      | cons b B =>
        unfold Same at h
        simp only [List.map_cons, List.cons.injEq, Prod.mk.injEq] at h
        obtain ⟨⟨h1, h2, h3⟩, h4⟩ := h
        obtain ⟨i1, i2⟩ := ih B h4
        have w1 : wr a = wr b := by unfold wr; rw [h1, h2, h3]
        have w2 : wrE a = wrE b := by unfold wrE; rw [h1, h2, h3]
        refine ⟨by unfold joinE; rw [w2, i1], fun last => ?_⟩
        unfold joinT
        rw [w1, i2]
  obtain ⟨e1, e2⟩ := hE A B h
  unfold joinV
  rw [hl, e1, e2]
/-- The joined text is a fixed point. -/
theorem once_ok (l : List UInt8) (L : List Tk) (a : Int) (h : scanV l = (L, a, 0)) (h2 : l.length ≤ 2000) : ∃ J M, joinV L = (J, 0) ∧ J.length ≤ 4000 ∧ scanV J = (M, 0, 0) ∧ joinV M = (J, 0) ∧ M.length = L.length ∧ (∀ t ∈ L, wrE t = 0) ∧ (∀ t ∈ M, wrE t = 0) ∧ L.length ≤ 2000 := by
  obtain ⟨v1, v2, v3⟩ := scanV_ok l L a h h2
  obtain ⟨hj, M, hM, hs⟩ := back_all L v1 (by omega) (by omega)
  have hml : M.length = L.length := by have := congrArg List.length hM; simpa using this
  refine ⟨joinT [40] L, M, hj, v3, hs, by rw [join_same hM, hj], hml, v1, ?_, v2⟩
  have hsc : scanL (joinT [40] L) 0 [] = (M, 0, 0) := by unfold scanV at hs; rwa [if_neg (by omega)] at hs
  obtain ⟨M2, e1, e2, _, _⟩ := scan_ok _ _ 0 [] (Nat.le_refl _) (show (scanL (joinT [40] L) 0 []).2.2 = 0 by rw [hsc])
  rw [hsc] at e1
  have e3 : M = M2 := e1
  rw [e3]; exact e2
end Go.Proofs.YtaengcbjpniclaaGreatDoor.Lx
