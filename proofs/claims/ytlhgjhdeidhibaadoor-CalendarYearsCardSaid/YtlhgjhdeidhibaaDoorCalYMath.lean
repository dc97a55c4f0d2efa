/- The years of a period; rows of periods. -/
import Derived.Test.YtlhgjhdeidhibaaDoorCalOv
namespace Go.Proofs.YtlhgjhdeidhibaaDoor.Cal
open Go.RowKit Go.Lib Go.Proofs.YtlhgjhdeidhibaaDoor.Bas
set_option linter.unusedVariables false

/-- Where the k-th year begins. -/
def bd (f t : Int) (k : Nat) : Int := if addB f (12 * (k : Int)) = true ∧ addH f (12 * (k : Int)) < t then addH f (12 * (k : Int)) else t
theorem bd_zero (f t : Int) (h0 : 0 ≤ f) (h1 : f < t) (h2 : t ≤ 876600) : bd f t 0 = f := by
  have z := addH_zero f h0 (by omega)
  unfold bd
  rw [show 12 * ((0 : Nat) : Int) = 0 by simp, if_pos ⟨z.1, by rw [z.2]; exact h1⟩, z.2]
theorem bd_le (f t : Int) (k : Nat) : bd f t k ≤ t := by
  unfold bd; split
  · rename_i h; exact Int.le_of_lt h.2
  · exact Int.le_refl _
theorem bd_some (f t : Int) (k : Nat) (h : bd f t k < t) : addB f (12 * (k : Int)) = true ∧ bd f t k = addH f (12 * (k : Int)) := by
  unfold bd at *
  by_cases e : addB f (12 * (k : Int)) = true ∧ addH f (12 * (k : Int)) < t
  · rw [if_pos e]; exact ⟨e.1, rfl⟩
  · rw [if_neg e] at h; exact absurd h (by omega)
theorem bd_ge (f t : Int) (k : Nat) (h0 : 0 ≤ f) (h1 : f < t) (h2 : t ≤ 876600) : f ≤ bd f t k := by
  by_cases h : bd f t k < t
  · obtain ⟨a, b⟩ := bd_some f t k h
    rw [b]
    have z := addH_zero f h0 (by omega)
    by_cases e : k = 0
    · subst e; rw [show 12 * ((0 : Nat) : Int) = 0 by simp, z.2]; exact Int.le_refl _
    · have := addH_lt f 0 (12 * (k : Int)) z.1 a (by omega)
      rw [z.2] at this; omega
  · have := bd_le f t k; omega
theorem bd_lt (f t : Int) (k : Nat) (h : bd f t k < t) : bd f t k < bd f t (k + 1) := by
  obtain ⟨a, b⟩ := bd_some f t k h
  by_cases g : bd f t (k + 1) < t
  · obtain ⟨c, d⟩ := bd_some f t (k + 1) g
    rw [b, d]
    exact addH_lt f _ _ a c (by omega)
  · have := bd_le f t (k + 1); omega
theorem bd_end (f t : Int) : bd f t 100 = t := by
  by_cases h : bd f t 100 < t
  · obtain ⟨a, -⟩ := bd_some f t 100 h
    have b := (addB_iff _ _).1 a
    have m := mix_bd f b.1 b.2.1
    have e := mix_zero f (12 * ((100 : Nat) : Int))
    omega
  · have := bd_le f t 100; omega
/-- What AddMonths tells of the next beginning. -/
theorem step_next (f t : Int) (k : Nat) : (addB f (12 * ((k + 1 : Nat) : Int)) = true ∧ addH f (12 * ((k + 1 : Nat) : Int)) ≤ t ∧ bd f t (k + 1) = addH f (12 * ((k + 1 : Nat) : Int))) ∨ (addB f (12 * ((k + 1 : Nat) : Int)) = false ∧ bd f t (k + 1) = t) ∨
    (addB f (12 * ((k + 1 : Nat) : Int)) = true ∧ t < addH f (12 * ((k + 1 : Nat) : Int)) ∧ bd f t (k + 1) = t) := by
  unfold bd
  cases hb : addB f (12 * ((k + 1 : Nat) : Int))
  · exact Or.inr (Or.inl ⟨rfl, by rw [if_neg (by simp)]⟩)
  · by_cases h : addH f (12 * ((k + 1 : Nat) : Int)) < t
    · exact Or.inl ⟨rfl, by omega, by rw [if_pos ⟨rfl, h⟩]⟩
    · rw [if_neg (fun e => h e.2)]
      by_cases g : addH f (12 * ((k + 1 : Nat) : Int)) ≤ t
      · exact Or.inl ⟨rfl, g, by omega⟩
      · exact Or.inr (Or.inr ⟨rfl, by omega, rfl⟩)
/-- How many years there are. -/
theorem years_count (f t : Int) (h0 : 0 ≤ f) (h1 : f < t) (h2 : t ≤ 876600) : ∃ K : Nat, 0 < K ∧ K ≤ 100 ∧ bd f t K = t ∧ ∀ k, k < K → bd f t k < t := by
  have go : ∀ n : Nat, (∃ K : Nat, 0 < K ∧ K ≤ n ∧ bd f t K = t ∧ ∀ k, k < K → bd f t k < t) ∨ ∀ k, k ≤ n → bd f t k < t := by
    intro n
    induction n with
    | zero => exact Or.inr (fun k hk => by obtain rfl : k = 0 := by omega
                                           rw [bd_zero f t h0 h1 h2]; exact h1)
    | succ n ih =>
      rcases ih with ⟨K, a, b, c, d⟩ | h
      · exact Or.inl ⟨K, a, by omega, c, d⟩
      · by_cases e : bd f t (n + 1) < t
        · exact Or.inr (fun k hk => by
            by_cases g : k ≤ n
            · exact h k g
            · obtain rfl : k = n + 1 := by omega
              exact e)
        · exact Or.inl ⟨n + 1, by omega, by omega, by have := bd_le f t (n + 1); omega, fun k hk => h k (by omega)⟩
  rcases go 100 with h | h
  · exact h
  · have := h 100 (by omega); rw [bd_end] at this; omega
/-- The first K years. -/
def yl (f t : Int) (K : Nat) : List (Int × Int) := (List.range K).map fun i => (bd f t i, bd f t (i + 1))
theorem yl_length (f t : Int) (K : Nat) : (yl f t K).length = K := by simp [yl]
theorem yl_succ (f t : Int) (K : Nat) : yl f t (K + 1) = yl f t K ++ [(bd f t K, bd f t (K + 1))] := by simp [yl, List.range_succ]
theorem yl_at (f t : Int) (K i : Nat) (h : i < (yl f t K).length) : (yl f t K)[i] = (bd f t i, bd f t (i + 1)) := by simp [yl]

/-- The cells of periods. -/
def flat (L : List (Int × Int)) : List Value := L.flatMap fun p => [.int .i64 p.1, .int .i64 p.2]
theorem flat_length (L : List (Int × Int)) : (flat L).length = L.length * 2 := by
  induction L with
  | nil => rfl
  | cons p r ih => simp [flat] at *; omega
theorem flat_snoc (L : List (Int × Int)) (p : Int × Int) : flat (L ++ [p]) = flat L ++ [.int .i64 p.1, .int .i64 p.2] := by simp [flat]
theorem flat_at (L : List (Int × Int)) : ∀ (i : Nat) (h : i < L.length), (flat L)[i * 2]? = some (.int .i64 L[i].1) ∧ (flat L)[i * 2 + 1]? = some (.int .i64 L[i].2) := by
  induction L with
  | nil => intro i h; simp at h
  | cons p r ih =>
    intro i h
    cases i with
    | zero => simp [flat]
    | succ i =>
      have := ih i (by simpa using h)
      have e : flat (p :: r) = .int .i64 p.1 :: .int .i64 p.2 :: flat r := by simp [flat]
      rw [e, show (i + 1) * 2 = i * 2 + 1 + 1 by omega]
      simpa using this
/-- A row of periods of the call's own. -/
def PRow (B : Nat) (w : World) (v : Value) (L : List (Int × Int)) : Prop := w.ownsRow B 46 2 v L.length (flat L)
theorem prow_nil (B : Nat) (w : World) : PRow B w (.slice none 0 0) [] := World.ownsRow_nil w B _ 2
theorem PRow.shape {B : Nat} {w : World} {v : Value} {L : List (Int × Int)} (h : PRow B w v L) : ∃ p c, v = .slice p L.length c ∧ (0 < L.length → ∃ g, p = some ⟨g, 0, none⟩ ∧ B ≤ g ∧ g < w.heap.size ∧ ∀ i (hi : i < L.length), w.cell? ⟨g, i * 2, none⟩ = some (.int .i64 L[i].1) ∧ w.cell? ⟨g, i * 2 + 1, none⟩ = some (.int .i64 L[i].2)) := by
  have hlt := World.ownsRow.lt h
  rcases h.2 with ⟨rfl, h0⟩ | ⟨g, cap, cur, rfl, hb, _⟩
  · exact ⟨none, 0, by rw [h0], fun h => by omega⟩
  · refine ⟨_, _, rfl, fun _ => ⟨g, rfl, hb, (hlt g rfl).2, fun i hi => ?_⟩⟩
    have := flat_at L i hi
    rw [World.ownsRow.cellAt h (i * 2) (by omega), World.ownsRow.cellAt h (i * 2 + 1) (by omega)]
    exact this
theorem PRow.below {B C : Nat} {w w' : World} {v : Value} {L : List (Int × Int)} (h : PRow B w v L) (hb : Below C w w') (hC : ∀ g, v.ownBlock = some g → g < C) : PRow B w' v L := by
  obtain ⟨h1, h2⟩ := h
  refine ⟨h1, ?_⟩
  rcases h2 with h2 | ⟨g, cap, cur, hv, hg, hh, r⟩
  · exact Or.inl h2
  · exact Or.inr ⟨g, cap, cur, hv, hg, by rw [hb.block g (hC g (by subst hv; rfl))]; exact hh, r⟩
theorem PRow.keep {B : Nat} {w w' : World} {v : Value} {L : List (Int × Int)} (h : PRow B w v L) (hb : Below w.heap.size w w') : PRow B w' v L :=
  h.below hb fun g hg => (World.ownsRow.lt h g hg).2
theorem PRow.mono {B B' : Nat} {w : World} {v : Value} {L : List (Int × Int)} (h : PRow B w v L) (hB : B' ≤ B) : PRow B' w v L := Go.Joins.ownsRow_le h hB
theorem TwoAt.grown {w w' : World} {b : Nat} {f t : Int} {row : Option Nat} (h : TwoAt w b f t) (hg : w.grownBy w' row) (hr : ∀ g, row = some g → b < g) : TwoAt w' b f t := by
  obtain ⟨h0, h1, h2, h3, h4⟩ := h
  have e := hg.block b h0 (fun e => by have := hr b e.symm; omega)
  refine ⟨Nat.lt_of_lt_of_le h0 hg.size, ?_, ?_, ?_, ?_⟩
  · rw [World.cell?_of_block (w := w) (a := ⟨b, 0, none⟩) e]; exact h1
  · rw [World.cell?_of_block (w := w) (a := ⟨b, 1, none⟩) e]; exact h2
  · rw [World.frozen?_of_block (w := w) (a := ⟨b, 0, none⟩) e]; exact h3
  · rw [World.frozen?_of_block (w := w) (a := ⟨b, 1, none⟩) e]; exact h4
theorem info_period : (Tryd.prog.info? 46).map (fun i => (i.zero, i.size, i.bytes)) = some (some (.agg #[.int .i64 0, .int .i64 0]), 2, 16) := by kernel_rfl
/-- append of one period that was just laid into a block of its own. -/
theorem wpList_append_per {w : World} {ops : Array Oper} {rest : List Oper} {o : Oper} {a : Act} {Q : Exit → Act → World → Prop} (hgd : o.guard = none) (s x : Operand)
    (ho : o.op = .call { callee := .builtin .append, args := #[s, x], argTypes := #[61, 61] })
    (B : Nat) (v : Value) (L : List (Int × Int)) (hs : a.eval s = v) (hrow : PRow B w v L) (f t : Int) (hx : a.eval x = .slice (some ⟨w.heap.size, 0, none⟩) 1 1)
    (hlen : L.length ≤ 1000) (hB : B ≤ w.heap.size)
    (h : ∀ v' w', PRow B w' v' (L ++ [(f, t)]) → w.grownBy w' v.ownBlock → wpList Tryd.prog ops Q rest (a.put o.dst v') w') : wpList Tryd.prog ops Q (o :: rest) a (w.alloc (.cells #[.int .i64 f, .int .i64 t] 46)) := by
  obtain ⟨i, hi, hz, hsz, hby⟩ : ∃ i, Tryd.prog.info? 46 = some i ∧ i.zero = some (.agg #[.int .i64 0, .int .i64 0]) ∧ i.size = 2 ∧ i.bytes = 16 := by
    have := info_period
    cases hh : Tryd.prog.info? 46 with
    | none => rw [hh] at this; simp at this
    | some i => rw [hh] at this; simp at this; exact ⟨i, rfl, this.1, this.2.1, this.2.2⟩
  refine wpList_append_own _ hgd s x 61 ho B 46 i (.agg #[.int .i64 0, .int .i64 0]) 2 16 Tryd.underlying61 hi hz hsz hby rfl (by decide) v L.length (flat L) hs (World.ownsRow.alloc hrow _) ⟨w.heap.size, 0, none⟩ 1 1 [.int .i64 f, .int .i64 t] hx rfl ?_ ?_ (by unfold maxLen; omega) (by omega) (by simp; omega) ?_
  · intro j u hu
    match j with
    | 0 => simp at hu; subst hu; simp [Addr.add]
    | 1 => simp at hu; subst hu; simp [Addr.add]
    | j + 2 => simp at hu
  · intro u hu
    simp at hu
    rcases hu with rfl | rfl <;> rfl
  · intro v' w' hown hg _
    refine h v' w' ?_ (grownBy_alloc hg)
    unfold PRow
    rw [List.length_append, flat_snoc]
    exact hown
end Go.Proofs.YtlhgjhdeidhibaaDoor.Cal
