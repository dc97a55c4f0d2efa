/- What was joined is scanned as the same tokens (mathematics). -/
import Derived.Test.YtaengcbjpniclaaGreatDoorLxLim
import Derived.Test.YtaengcbjpniclaaGreatDoorLxJoin
namespace Go.Proofs.YtaengcbjpniclaaGreatDoor.Lx
open Go.RowKit Go.Lib Go.Proofs.YtaengcbjpniclaaGreatDoor.Bas Go.Proofs.YtaengcbjpniclaaGreatDoor.Cal
set_option linter.unusedVariables false

/-- Nothing that continues a token stands ahead: the end, a blank, a line feed or a mark. -/
def Sep (r : List UInt8) : Prop := r = [] ∨ (∃ c q, r = c :: q ∧ (c = 32 ∨ c = 10 ∨ markB [c] = true))
theorem sep_byte {r : List UInt8} (h : Sep r) (f : UInt8 → Bool) (h32 : f 32 = false) (h10 : f 10 = false) (hm : ∀ c, markB [c] = true → f c = false) : r = [] ∨ f (r.getD 0 0) = false := by
  rcases h with h | ⟨c, q, rfl, hc⟩
  · exact .inl h
  · right
    show f c = false
    rcases hc with rfl | rfl | hc
    · exact h32
    · exact h10
    · exact hm c hc
theorem mark_out (f : UInt8 → Bool) (h1 : f 59 = false) (h2 : f 58 = false) (h3 : f 44 = false) (h4 : f 40 = false) (h5 : f 41 = false) : ∀ c, markB [c] = true → f c = false := by
  intro c hc
  rcases mark_cases c hc with rfl | rfl | rfl | rfl | rfl <;> assumption
theorem sep_stp {r : List UInt8} (h : Sep r) : stp r = false := by
  rcases h with rfl | ⟨c, q, rfl, hc⟩
  · rfl
  · rcases hc with rfl | rfl | hc
    · rfl
    · rfl
    · rcases mark_cases c hc with rfl | rfl | rfl | rfl | rfl <;> rfl
theorem take_app (w r : List UInt8) : (w ++ r).take w.length = w := by simp
theorem drop_app (w r : List UInt8) : (w ++ r).drop w.length = r := by simp
/-- A word is read. -/
theorem first_name (w r : List UInt8) (hw : wordB w = true) (hr : Sep r) : firstV (w ++ r) = (⟨1, w, 0, 0⟩, w.length, 0) := by
  obtain ⟨h1, h2, h3, h4, h5⟩ := of_decide_eq_true hw
  have hs : spn inW (w ++ r) = w.length := spn_append inW w r h5 (sep_byte hr inW rfl rfl (mark_out _ rfl rfl rfl rfl rfl))
  have hg : (w ++ r).getD 0 0 = w.getD 0 0 := by
    cases w with
    | nil => simp at h1
    | cons c q => rfl
  unfold firstV
  rw [hg, if_pos h3]
  unfold wdV
  rw [hs, take_app, if_pos hw]
/-- The digits of a number. -/
theorem dec_digits (n : Nat) : (∀ c ∈ decDigits n, dgt c = true) ∧ decDigits n ≠ [] ∧ dv 0 (decDigits n) = n ∧ (1 < (decDigits n).length → ((decDigits n).getD 0 0).toNat ≠ 48) := by
  induction n using Nat.strongRecOn with
  | ind n ih =>
    have key : ∀ k, k < 10 → (UInt8.ofNat (48 + k)).toNat = 48 + k := fun k hk => by
      rw [UInt8.toNat_ofNat']; omega
    by_cases h : n < 10
    · rw [decDigits, dif_pos h]
      refine ⟨fun c hc => ?_, by simp, ?_, fun h => by simp at h⟩
      · simp only [List.mem_singleton] at hc
        subst hc
        rw [dgt_iff, key n h]; omega
      · unfold dv
        simp only [List.foldl_cons, List.foldl_nil]
        rw [key n h]; omega
    · rw [decDigits, dif_neg h]
      obtain ⟨i1, i2, i3, i4⟩ := ih (n / 10) (by omega)
      refine ⟨fun c hc => ?_, by simp, ?_, fun _ => ?_⟩
      · rcases List.mem_append.1 hc with hc | hc
        · exact i1 c hc
        · simp only [List.mem_singleton] at hc
          subst hc
          rw [dgt_iff, key (n % 10) (by omega)]; omega
      · unfold dv at i3 ⊢
        rw [List.foldl_append, i3]
        simp only [List.foldl_cons, List.foldl_nil]
        rw [key (n % 10) (by omega)]; omega
      · cases hd : decDigits (n / 10) with
        | nil => exact absurd hd i2
        | cons c q =>
          show c.toNat ≠ 48
          rw [hd] at i1 i3 i4
          by_cases hq : q = []
          · subst hq
            intro e
            have : dv 0 [c] = n / 10 := i3
            unfold dv at this
            simp only [List.foldl_cons, List.foldl_nil] at this
            omega
          · exact i4 (by cases q with | nil => exact absurd rfl hq | cons a b => simp)
/-- A number is read. -/
theorem first_numeral (n : Int) (r : List UInt8) (hn : -17592186044416 ≤ n ∧ n ≤ 17592186044416) (hr : Sep r) : firstV (itoa n ++ r) = (⟨2, [], n, 0⟩, (itoa n).length, 0) := by
  have hout := sep_byte hr dgt rfl rfl (mark_out _ rfl rfl rfl rfl rfl)
  by_cases hneg : n < 0
  · have hi : itoa n = 45 :: decDigits n.natAbs := by unfold itoa; rw [if_pos hneg]
    obtain ⟨d1, d2, d3, d4⟩ := dec_digits n.natAbs
    rw [hi]
    generalize hD : decDigits n.natAbs = D at *
    have hg : ((45 :: D) ++ r).getD 0 0 = 45 := rfl
    have hsg : sgn ((45 :: D) ++ r) = 1 := by unfold sgn; rw [hg]; rfl
    have hsp : spn dgt (((45 :: D) ++ r).drop 1) = D.length := spn_append dgt D r d1 hout
    have hz : numSz ((45 :: D) ++ r) = (45 :: D).length := by unfold numSz; rw [hsg, hsp]; simp; omega
    have hpos : 1 ≤ D.length := by cases D with | nil => exact absurd rfl d2 | cons a b => simp
    have hlead : ¬ (((45 :: D) ++ r).getD 1 0).toNat = 48 := by
      cases D with
      | nil => exact absurd rfl d2
      | cons a b =>
        show ¬ a.toNat = 48
        by_cases hb : b = []
        · subst hb
          intro e
          have : dv 0 [a] = n.natAbs := d3
          unfold dv at this
          simp only [List.foldl_cons, List.foldl_nil] at this
          omega
        · exact d4 (by cases b with | nil => exact absurd rfl hb | cons x y => simp)
    unfold firstV
    rw [hg, if_neg (by decide), if_pos (.inr rfl)]
    unfold numV
    rw [hsg, hz, take_app, if_neg (by rintro (h | h); rw [List.length_cons] at h; omega; exact hlead h.2), show (45 :: D).drop 1 = D from rfl, d3, if_neg (by omega), if_pos rfl, show -((n.natAbs : Nat) : Int) = n by omega]
  · have hi : itoa n = decDigits n.toNat := by unfold itoa; rw [if_neg hneg]
    obtain ⟨d1, d2, d3, d4⟩ := dec_digits n.toNat
    rw [hi]
    generalize hD : decDigits n.toNat = D at *
    obtain ⟨a, b, rfl⟩ : ∃ a b, D = a :: b := by cases D with | nil => exact absurd rfl d2 | cons a b => exact ⟨a, b, rfl⟩
    have ha := d1 a (by simp)
    have ha2 := (dgt_iff a).1 ha
    have hg : ((a :: b) ++ r).getD 0 0 = a := rfl
    have hsg : sgn ((a :: b) ++ r) = 0 := by unfold sgn; rw [hg, if_neg (by omega)]
    have hsp : spn dgt (((a :: b) ++ r).drop 0) = (a :: b).length := spn_append dgt (a :: b) r d1 hout
    have hz : numSz ((a :: b) ++ r) = (a :: b).length := by unfold numSz; rw [hsg, hsp]; omega
    unfold firstV
    rw [hg, if_neg (by unfold ltr; simp; omega), if_pos (.inl ha)]
    unfold numV
    rw [hsg, hz, take_app, hg, if_neg (by rintro (h | ⟨h, h48⟩); simp at h; exact d4 h h48), List.drop_zero, d3, if_neg (by omega), if_neg (by decide), show ((n.toNat : Nat) : Int) = n by omega]
/-- An hour is read. -/
theorem inH_dgc (k : Int) (h0 : 0 ≤ k) (h1 : k ≤ 9) : inH (dgc k) = true := by
  have := dgc_nat k h0 h1
  have hd : dgt (dgc k) = true := (dgt_iff _).2 (by omega)
  unfold inH
  rw [hd]; rfl
theorem two_bytes (n : Int) (h0 : 0 ≤ n) (h1 : n ≤ 99) : ∀ c ∈ two n, inH c = true := by
  intro c hc
  unfold two at hc
  simp only [List.mem_cons, List.not_mem_nil, or_false] at hc
  rcases hc with rfl | rfl
  · exact inH_dgc _ (by omega) (by omega)
  · exact inH_dgc _ (by omega) (by omega)
theorem fmt_bytes (n : Int) (h0 : 0 ≤ n) (h1 : n ≤ 876599) : ∀ c ∈ bl (fmtT n), inH c = true := by
  obtain ⟨⟨y1, y2, m1, m2, d1, d2⟩, _⟩ := day_of n h0 h1
  have hmd := (md_bd (yr (n / 24)) (mo (n / 24))).2
  unfold fmtT
  rw [bl_tx]
  generalize yr (n / 24) = y at *
  generalize mo (n / 24) = m at *
  generalize da (n / 24) = d at *
  have hday : ∀ c ∈ dayL y m d, inH c = true := by
    intro c hc
    unfold dayL at hc
    simp only [List.mem_append, List.mem_singleton] at hc
    rcases hc with ((((hc | hc) | rfl) | hc) | rfl) | hc
    · exact two_bytes _ (by omega) (by omega) c hc
    · exact two_bytes _ (by omega) (by omega) c hc
    · rfl
    · exact two_bytes _ (by omega) (by omega) c hc
    · rfl
    · exact two_bytes _ (by omega) (by omega) c hc
  unfold fmtL
  split
  · exact hday
  · intro c hc
    simp only [List.mem_append, List.mem_singleton] at hc
    rcases hc with hc | rfl | hc
    · exact hday c hc
    · rfl
    · exact two_bytes _ (by omega) (by omega) c hc
theorem first_hourb (n : Int) (r : List UInt8) (h0 : 0 ≤ n) (h1 : n ≤ 876599) (hr : Sep r) : firstV (64 :: bl (fmtT n) ++ r) = (⟨3, [], n, 0⟩, (64 :: bl (fmtT n)).length, 0) := by
  have hout := sep_byte hr inH rfl rfl (mark_out _ rfl rfl rfl rfl rfl)
  have hsp : spn inH ((64 :: bl (fmtT n) ++ r).drop 1) = (bl (fmtT n)).length := spn_append inH _ r (fmt_bytes n h0 h1) hout
  have hz : hrSz (64 :: bl (fmtT n) ++ r) = (64 :: bl (fmtT n)).length := by unfold hrSz; rw [hsp]; simp; omega
  have hp : parseV (tx (bl (fmtT n))) = (n, 0) := by rw [tx_bl]; exact parse_fmt n h0 h1
  unfold firstV
  rw [show (64 :: bl (fmtT n) ++ r).getD 0 0 = 64 from rfl, if_neg (by decide), if_neg (by decide), if_pos (by decide)]
  unfold hrV
  rw [hz, take_app, show (64 :: bl (fmtT n)).drop 1 = bl (fmtT n) from rfl, hp, if_neg (by simp)]
/-- What a token's error being none means. -/
theorem wrE_zero (t : Tk) (h : wrE t = 0) : (t.k = 1 ∧ t.n = 0 ∧ wordB t.t = true) ∨ (t.k = 2 ∧ t.t = [] ∧ -17592186044416 ≤ t.n ∧ t.n ≤ 17592186044416) ∨ (t.k = 3 ∧ t.t = [] ∧ 0 ≤ t.n ∧ t.n ≤ 876599) ∨ (t.k = 4 ∧ t.n = 0 ∧ markB t.t = true) := by
  unfold wrE at h
  split at h
  · cases h
  · split at h
    · split at h
      · cases h
      · rename_i hk hn
        split at h
        · rename_i h1
          split at h
          · exact .inl ⟨h1, by simpa using hn, by assumption⟩
          · cases h
        · split at h
          · exact .inr (.inr (.inr ⟨by omega, by simpa using hn, by assumption⟩))
          · cases h
    · split at h
      · cases h
      · rename_i ht
        split at h
        · rename_i h3
          split at h
          · rename_i hn
            exact .inr (.inr (.inl ⟨h3, by simpa using ht, hn.1, hn.2⟩))
          · cases h
        · split at h
          · rename_i hn
            exact .inr (.inl ⟨by omega, by simpa using ht, hn.1, hn.2⟩)
          · cases h
theorem wr_name (t : Tk) (h : t.k = 1 ∨ t.k = 4) : wr t = t.t := by unfold wr; rw [if_neg (by omega), if_neg (by omega)]
theorem wr_num (t : Tk) (h : t.k = 2) : wr t = itoa t.n := by unfold wr; rw [if_pos h]
theorem wr_hour (t : Tk) (h : t.k = 3) : wr t = 64 :: bl (fmtT t.n) := by unfold wr; rw [if_neg (by omega), if_pos h]
/-- The first byte of a token's text. -/
theorem itoa_head (n : Int) : ∃ c q, itoa n = c :: q ∧ (dgt c = true ∨ c = 45) := by
  unfold itoa
  split
  · exact ⟨_, _, rfl, .inr rfl⟩
  · obtain ⟨d1, d2, _, _⟩ := dec_digits n.toNat
    cases hd : decDigits n.toNat with
    | nil => exact absurd hd d2
    | cons c q => exact ⟨c, q, rfl, .inl (d1 c (by rw [hd]; simp))⟩
theorem wr_head (t : Tk) (h : wrE t = 0) : ∃ c q, wr t = c :: q ∧ ¬ (c.toNat = 32 ∨ c.toNat = 10) ∧ ¬ c.toNat = 35 ∧ (t.k ≠ 4 → c ≠ 40) := by
  rcases wrE_zero t h with ⟨hk, hn, hw⟩ | ⟨hk, ht, hn1, hn2⟩ | ⟨hk, ht, hn1, hn2⟩ | ⟨hk, hn, hm⟩
  · rw [wr_name t (.inl hk)]
    obtain ⟨h1, h2, h3, h4, h5⟩ := of_decide_eq_true hw
    cases hd : t.t with
    | nil => rw [hd] at h1; simp at h1
    | cons c q =>
      rw [hd] at h3
      have h3' : ltr c = true := h3
      unfold ltr at h3'
      have := of_decide_eq_true h3'
      exact ⟨c, q, rfl, by omega, by omega, fun _ e => by subst e; revert this; decide⟩
  · rw [wr_num t hk]
    obtain ⟨c, q, hc, hd⟩ := itoa_head t.n
    rw [hc]
    rcases hd with hd | rfl
    · have := (dgt_iff c).1 hd
      exact ⟨c, q, rfl, by omega, by omega, fun _ e => by subst e; revert this; decide⟩
    · exact ⟨_, q, rfl, by decide, by decide, fun _ => by decide⟩
  · rw [wr_hour t hk]
    exact ⟨64, _, rfl, by decide, by decide, fun _ => by decide⟩
  · rw [wr_name t (.inr hk)]
    obtain ⟨c, hc⟩ : ∃ c, t.t = [c] := by
      rcases of_decide_eq_true hm with h | h | h | h | h <;> exact ⟨_, h⟩
    rw [hc] at hm ⊢
    exact ⟨c, [], rfl, (mark_not c hm).1, (mark_not c hm).2, fun h => absurd hk h⟩
theorem first_wr (t : Tk) (r : List UInt8) (h : wrE t = 0) (hr : t.k = 4 ∨ Sep r) : firstV (wr t ++ r) = (⟨t.k, t.t, t.n, 0⟩, (wr t).length, 0) := by
  have hs : t.k ≠ 4 → Sep r := fun e => by rcases hr with h | h; exact absurd h e; exact h
  rcases wrE_zero t h with ⟨hk, hn, hw⟩ | ⟨hk, ht, hn1, hn2⟩ | ⟨hk, ht, hn1, hn2⟩ | ⟨hk, hn, hm⟩
  · rw [wr_name t (.inl hk), first_name _ r hw (hs (by omega)), hk, hn]
  · rw [wr_num t hk, first_numeral _ r ⟨hn1, hn2⟩ (hs (by omega)), hk, ht]
  · rw [wr_hour t hk, first_hourb _ r hn1 hn2 (hs (by omega)), hk, ht]
  · rw [wr_name t (.inr hk), hk, hn]
    obtain ⟨c, hc⟩ : ∃ c, t.t = [c] := by
      rcases of_decide_eq_true hm with h | h | h | h | h <;> exact ⟨_, h⟩
    rw [hc] at hm ⊢
    exact first_markc c hm r
theorem scan_wr (t : Tk) (r : List UInt8) (at' : Nat) (acc : List Tk) (h : wrE t = 0) (hr : t.k = 4 ∨ Sep r) (ha : acc.length ≠ 4000) : scanL (wr t ++ r) at' acc = scanL r (at' + (wr t).length) (acc ++ [⟨t.k, t.t, t.n, (at' : Int)⟩]) := by
  have hf := first_wr t r h hr
  obtain ⟨c, q, hc, h1, h2, _⟩ := wr_head t h
  have hst : ¬ (t.k = 2 ∧ stp r = true) := fun e => by
    rcases hr with h4 | hr
    · omega
    · rw [sep_stp hr] at e; cases e.2
  rw [scanL_step _ _ _ (by rw [hc]; simp), show (wr t ++ r).getD 0 0 = c by rw [hc]; rfl, if_neg h1, if_neg h2, hf, if_neg (by simp), if_neg ha, drop_app, if_neg hst]
/-- The same tokens, apart from where they stand. -/
def Same (A B : List Tk) : Prop := A.map (fun t => (t.k, t.t, t.n)) = B.map (fun t => (t.k, t.t, t.n))
theorem gap_sep (last : List UInt8) (L : List Tk) (hl : last ≠ [40]) (hv : ∀ t ∈ L, wrE t = 0) : Sep (joinT last L) := by
  cases L with
  | nil => exact .inl rfl
  | cons t L =>
    right
    show ∃ c q, gap last (wr t) ++ (wr t ++ joinT (wr t) L) = c :: q ∧ _
    unfold gap
    by_cases hg : wr t = [40] ∨ markB (wr t) = false
    · rw [if_pos ⟨hl, hg⟩]
      exact ⟨32, _, rfl, .inl rfl⟩
    · rw [if_neg (fun e => hg e.2)]
      have hm : markB (wr t) = true := by
        cases h : markB (wr t) with
        | true => rfl
        | false => exact absurd (.inr h) hg
      obtain ⟨c, hc⟩ : ∃ c, wr t = [c] := by
        rcases of_decide_eq_true hm with h | h | h | h | h <;> exact ⟨_, h⟩
      rw [hc] at hm
      exact ⟨c, _, by rw [hc]; rfl, .inr (.inr hm)⟩
theorem scan_join : ∀ (L : List Tk) (last : List UInt8) (at' : Nat) (acc : List Tk), (∀ t ∈ L, wrE t = 0) → acc.length + L.length ≤ 4000 → ∃ M, Same M L ∧ scanL (joinT last L) at' acc = (acc ++ M, 0, 0) := by
  intro L
  induction L with
  | nil => intro last at' acc _ _; exact ⟨[], rfl, by rw [List.append_nil]; rfl⟩
  | cons t L ih =>
    intro last at' acc hv hlen
    rw [List.length_cons] at hlen
    have ht := hv t (by simp)
    have hL : ∀ x ∈ L, wrE x = 0 := fun x hx => hv x (by simp [hx])
    have hsep : t.k = 4 ∨ Sep (joinT (wr t) L) := by
      by_cases h4 : t.k = 4
      · exact .inl h4
      · right
        refine gap_sep _ _ ?_ hL
        obtain ⟨c, q, hc, _, _, h40⟩ := wr_head t ht
        rw [hc]
        intro e
        exact h40 h4 (by injection e)
    have key : ∀ a : Nat, ∃ M, Same M (t :: L) ∧ scanL (wr t ++ joinT (wr t) L) a acc = (acc ++ M, 0, 0) := by
      intro a
      obtain ⟨M, hM, he⟩ := ih (wr t) (a + (wr t).length) (acc ++ [⟨t.k, t.t, t.n, (a : Int)⟩]) hL (by simp; omega)
      refine ⟨⟨t.k, t.t, t.n, (a : Int)⟩ :: M, ?_, ?_⟩
      · show _ :: _ = _ :: _
        rw [show M.map _ = L.map _ from hM]
      · rw [scan_wr t _ a acc ht hsep (by omega), he, List.append_assoc]
        rfl
    show ∃ M, _ ∧ scanL (gap last (wr t) ++ (wr t ++ joinT (wr t) L)) at' acc = _
    unfold gap
    split
    · rw [List.singleton_append, scan_sp 32 (by decide)]
      exact key _
    · rw [List.nil_append]
      exact key _
theorem back_all (L : List Tk) (hv : ∀ t ∈ L, wrE t = 0) (h4 : L.length ≤ 4000) (h16 : (joinT [40] L).length ≤ 16384) : joinV L = (joinT [40] L, 0) ∧ ∃ M, Same M L ∧ scanV (joinT [40] L) = (M, 0, 0) := by
  have hE : joinE L = 0 := joinE_all L (fun j hj => by rw [tk_at L j hj]; exact hv _ (List.getElem_mem _))
  constructor
  · unfold joinV
    rw [if_neg (by omega), hE, if_neg (by simp), if_neg (by omega)]
  · obtain ⟨M, hM, he⟩ := scan_join L [40] 0 [] hv (by simpa using h4)
    refine ⟨M, hM, ?_⟩
    unfold scanV
    rw [if_neg (by omega), he]
    rfl
theorem joinT_len (L : List Tk) (hv : ∀ t ∈ L, wrE t = 0) : ∀ last, (joinT last L).length ≤ 22 * L.length := by
  induction L with
  | nil => intro last; simp [joinT]
  | cons t L ih =>
    intro last
    have h1 := gap_len last (wr t)
    have h2 := wr_len t (hv t (by simp))
    have h3 := ih (fun x hx => hv x (by simp [hx])) (wr t)
    show (gap last (wr t) ++ (wr t ++ joinT (wr t) L)).length ≤ _
    rw [List.length_append, List.length_append, List.length_cons]
    omega
end Go.Proofs.YtaengcbjpniclaaGreatDoor.Lx
