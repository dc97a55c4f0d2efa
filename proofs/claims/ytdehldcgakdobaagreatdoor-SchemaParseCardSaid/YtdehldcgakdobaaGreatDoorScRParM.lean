/- How the reference reads facts: one attribute behind the other (mathematics). -/
import Derived.Test.YtdehldcgakdobaaGreatDoorScPParse
namespace Go.Proofs.YtdehldcgakdobaaGreatDoor.Sc
open Go.RowKit Go.Lib Go.Proofs.YtdehldcgakdobaaGreatDoor.Bas Go.Proofs.YtdehldcgakdobaaGreatDoor.Cal Go.Proofs.YtdehldcgakdobaaGreatDoor.Lx
set_option linter.unusedVariables false

def ne59 (c : UInt8) : Bool := !decide (c = 59)
def headL (L : List At) (k : Nat) : List UInt8 := sepT k ++ ((at' L k).nm ++ [61])
/-- Where the value of the attribute ends, and what it is. -/
def endV (T : List UInt8) (p : Nat) : Nat := p + spn ne59 (T.drop p)
def partV (T : List UInt8) (p : Nat) : List UInt8 := (T.take (endV T p)).drop p
structure Inv (L : List At) (T : List UInt8) (f : List Int) (k pos : Nat) : Prop where
  len : f.length = k
  tk : T.take pos = fmtP L f k
  le : pos ≤ T.length
  ag : ∀ g, Sol L T g → ∀ j, j < k → g.getD j 0 = f.getD j 0
theorem inv_zero (L : List At) (T : List UInt8) : Inv L T [] 0 0 := ⟨rfl, by simp [fmtP], Nat.zero_le _, fun g _ j hj => absurd hj (Nat.not_lt_zero _)⟩
theorem fmtP_congr (L : List At) (f g : List Int) : ∀ k, (∀ j, j < k → g.getD j 0 = f.getD j 0) → fmtP L g k = fmtP L f k := by
  intro k
  induction k with
  | zero => intro _; rfl
  | succ k ih =>
    intro h
    show fmtP L g k ++ sepT k ++ oneT (at' L k) (g.getD k 0) = fmtP L f k ++ sepT k ++ oneT (at' L k) (f.getD k 0)
    rw [ih (fun j hj => h j (by omega)), h k (by omega)]
theorem fmtP_more (L : List At) (g : List Int) (k : Nat) : ∀ m, k + 1 ≤ m → ∃ R, fmtP L g m = fmtP L g (k + 1) ++ R ∧ (R = [] ∨ ne59 (R.getD 0 0) = false) := by
  intro m
  induction m with
  | zero => intro h; omega
  | succ m ih =>
    intro h
    by_cases e : k = m
    · subst e; exact ⟨[], by simp, .inl rfl⟩
    · obtain ⟨R, h1, h2⟩ := ih (by omega)
      refine ⟨R ++ (sepT m ++ oneT (at' L m) (g.getD m 0)), ?_, .inr ?_⟩
      · show fmtP L g m ++ sepT m ++ oneT (at' L m) (g.getD m 0) = _
        rw [h1]; simp
      · rcases h2 with rfl | h2
        · have : sepT m = [59, 32] := by unfold sepT; rw [if_neg (by omega)]
          rw [this]; rfl
        · cases R with
          | nil =>
            have : sepT m = [59, 32] := by unfold sepT; rw [if_neg (by omega)]
            rw [this]; rfl
          | cons c r => simpa using h2
theorem take_cut (T : List UInt8) (a b : Nat) (h : a ≤ b) : T.take b = T.take a ++ (T.take b).drop a := by
  have := List.take_append_drop a (T.take b)
  rw [List.take_take, Nat.min_eq_left h] at this
  exact this.symm
section
variable {L : List At} {T : List UInt8} {f : List Int} {k pos : Nat}
theorem inv_pos (I : Inv L T f k pos) : (fmtP L f k).length = pos := by
  rw [← I.tk, List.length_take]; have := I.le; omega
theorem inv_head (I : Inv L T f k pos) (hk : k < L.length) (g : List Int) (hg : Sol L T g) :
    pos + (headL L k).length ≤ T.length ∧ (T.take (pos + (headL L k).length)).drop pos = headL L k ∧ ReadOk (at' L k) (partV T (pos + (headL L k).length)) (g.getD k 0) := by
  obtain ⟨hf, hT⟩ := hg
  obtain ⟨h0, h1, h2⟩ := facts_ok L g hf
  obtain ⟨n1, n6, hat⟩ := schE_ok L h0
  obtain ⟨_, hatt⟩ := atE_ok L k (hat k hk)
  obtain ⟨R, hR, hR2⟩ := fmtP_more L g k L.length (by omega)
  have hA := fmtP_congr L f g k (I.ag g ⟨hf, hT⟩)
  have hpos := inv_pos I
  have hT2 : T = (fmtP L f k ++ headL L k) ++ (valT (at' L k) (g.getD k 0) ++ R) := by
    rw [← hT, hR]
    show fmtP L g k ++ sepT k ++ oneT (at' L k) (g.getD k 0) ++ R = _
    rw [hA]
    unfold headL oneT
    simp
  have hl : (fmtP L f k ++ headL L k).length = pos + (headL L k).length := by rw [List.length_append, hpos]
  have hno := no59_val hatt (h2 k hk).1 (h2 k hk).2
  have hsp : spn ne59 (valT (at' L k) (g.getD k 0) ++ R) = (valT (at' L k) (g.getD k 0)).length := spn_append _ _ _ (fun c hc => by unfold ne59; rw [decide_eq_false (hno c hc)]; rfl) hR2
  have hd : T.drop (pos + (headL L k).length) = valT (at' L k) (g.getD k 0) ++ R := by rw [← hl, hT2, List.drop_left]
  have hTl := congrArg List.length hT2
  rw [List.length_append, hl] at hTl
  refine ⟨by omega, ?_, (h2 k hk).1, (h2 k hk).2, ?_⟩
  · rw [← hl]
    conv => lhs; rw [hT2]
    rw [List.take_left, ← hpos, List.drop_left]
  · unfold partV endV
    rw [List.drop_take, hd, hsp, Nat.add_sub_cancel_left, List.take_left]
theorem inv_step (I : Inv L T f k pos) (hk : k < L.length) (hle : pos + (headL L k).length ≤ T.length) (hh : (T.take (pos + (headL L k).length)).drop pos = headL L k) (z : Int) (hz : valT (at' L k) z = partV T (pos + (headL L k).length))
    (hag : ∀ y, ReadOk (at' L k) (partV T (pos + (headL L k).length)) y → z = y) : Inv L T (f ++ [z]) (k + 1) (endV T (pos + (headL L k).length)) := by
  have e1 : (f ++ [z]).getD k 0 = z := by rw [List.getD_eq_getElem?_getD, List.getElem?_append_right (by rw [I.len]; exact Nat.le_refl _), I.len]; simp
  have e2 : ∀ j, j < k → (f ++ [z]).getD j 0 = f.getD j 0 := fun j hj => by rw [List.getD_eq_getElem?_getD, List.getElem?_append_left (by rw [I.len]; exact hj), ← List.getD_eq_getElem?_getD]
  refine ⟨by rw [List.length_append, I.len]; rfl, ?_, ?_, ?_⟩
  · rw [take_cut T (pos + (headL L k).length) (endV T (pos + (headL L k).length)) (by unfold endV; omega), take_cut T pos (pos + (headL L k).length) (by omega), hh, I.tk]
    show fmtP L f k ++ headL L k ++ partV T (pos + (headL L k).length) = fmtP L (f ++ [z]) k ++ sepT k ++ oneT (at' L k) ((f ++ [z]).getD k 0)
    rw [fmtP_congr L f (f ++ [z]) k e2, e1, ← hz]
    unfold headL oneT
    simp
  · unfold endV
    have := spn_le ne59 (T.drop (pos + (headL L k).length))
    rw [List.length_drop] at this
    omega
  · intro g hg j hj
    by_cases e : j = k
    · subst e
      rw [e1]
      exact (hag _ (inv_head I hk g hg).2.2).symm
    · rw [e2 j (by omega)]
      exact I.ag g hg j (by omega)
theorem inv_last (I : Inv L T f L.length pos) (g : List Int) (hg : Sol L T g) : pos = T.length ∧ factsB L f = true := by
  obtain ⟨hf, hT⟩ := hg
  obtain ⟨h0, h1, h2⟩ := facts_ok L g hf
  have hgf : g = f := by
    apply List.ext_getElem (by rw [h1, I.len])
    intro i p q
    have := I.ag g ⟨hf, hT⟩ i (by omega)
    simpa [List.getD_eq_getElem?_getD, p, q] using this
  subst hgf
  refine ⟨?_, hf⟩
  have := inv_pos I
  rw [hT] at this
  exact this.symm
theorem inv_done (I : Inv L T f L.length pos) (h1 : pos = T.length) (h2 : factsB L f = true) : Sol L T f := by
  refine ⟨h2, ?_⟩
  rw [← I.tk, h1, List.take_length]
end
end Go.Proofs.YtdehldcgakdobaaGreatDoor.Sc
