/- Package lexer: Join. -/
import Derived.Test.YtaengcbjpniclaaGreatDoorLxWrtN
import Derived.Test.YtaengcbjpniclaaGreatDoorLxBld
import Derived.Test.YtaengcbjpniclaaGreatDoorLxRow
namespace Go.Proofs.YtaengcbjpniclaaGreatDoor.Lx
open Go.RowKit Go.Lib Go.Proofs.YtaengcbjpniclaaGreatDoor.Bas Go.Proofs.YtaengcbjpniclaaGreatDoor.Cal
set_option linter.unusedVariables false

theorem joinE_all (l : List Tk) (h : ∀ j, j < l.length → wrE (tk l j) = 0) : joinE l = 0 := by
  induction l with
  | nil => rfl
  | cons t r ih =>
    have h0 : wrE t = 0 := h 0 (by simp)
    rw [joinE, if_neg (by simpa using h0)]
    exact ih (fun j hj => h (j + 1) (by simpa using hj))
theorem joinE_at (l : List Tk) : ∀ k, k < l.length → (∀ j, j < k → wrE (tk l j) = 0) → wrE (tk l k) ≠ 0 → joinE l = wrE (tk l k) := by
  induction l with
  | nil => intro k h; simp at h
  | cons t r ih =>
    intro k hk h he
    cases k with
    | zero =>
      have e : tk (t :: r) 0 = t := rfl
      rw [e] at he ⊢
      rw [joinE, if_pos he]
    | succ k =>
      have h0 : wrE t = 0 := h 0 (by omega)
      rw [joinE, if_neg (by simpa using h0)]
      exact ih k (by simpa using hk) (fun j hj => h (j + 1) (by omega)) he
theorem joinT_step (last : List UInt8) (l : List Tk) (k : Nat) (h : k < l.length) : joinT last (l.drop k) = gap last (wr (tk l k)) ++ (wr (tk l k) ++ joinT (wr (tk l k)) (l.drop (k + 1))) := by
  rw [List.drop_eq_getElem_cons h, tk_at l k h]
  rfl
theorem joinT_end (last : List UInt8) (l : List Tk) (k : Nat) (h : l.length ≤ k) : joinT last (l.drop k) = [] := by rw [List.drop_of_length_le h]; rfl
theorem gap_len (a b : List UInt8) : (gap a b).length ≤ 1 := by unfold gap; split <;> simp
theorem markB_le {u : List UInt8} (h : markB u = true) : u.length = 1 := by
  rcases of_decide_eq_true h with h | h | h | h | h <;> rw [h] <;> rfl
theorem wr_len (t : Tk) (h : wrE t = 0) : (wr t).length ≤ 21 := by
  unfold wr
  split
  · rename_i h2
    unfold wrE at h
    rw [if_neg (by omega), if_neg (by omega)] at h
    split at h
    · cases h
    · rw [if_neg (by omega)] at h
      split at h
      · exact Lib.itoa_length_le _ (by omega) (by omega)
      · cases h
  · split
    · have := (fmtT_size t.n).1
      rw [List.length_cons, bl_size]
      omega
    · rename_i h2 h3
      unfold wrE at h
      split at h
      · cases h
      · rw [if_pos (by omega)] at h
        split at h
        · cases h
        · split at h
          · split at h
            · rename_i hw
              have := (of_decide_eq_true hw).2.1
              omega
            · cases h
          · split at h
            · rename_i hw
              have := markB_le hw
              omega
            · cases h
/-- A text and an error. -/
def JoinOut (V : List UInt8 × Int) (w : World) (e : Ending) (w' : World) : Prop := e = .returned (.tuple #[.string (tx V.1), .int .i64 V.2]) ∧ Below w.heap.size w w'
theorem join_far (v : Value) (l : List Tk) (w : World) (h : TksAt w v l) (h4 : 4000 < l.length) (hl : l.length ≤ 9223372036854775807) : Calls Tryz.prog 6 #[v] w (JoinOut (joinV l) w) := by
  rw [show joinV l = ([], 4) by unfold joinV; rw [if_pos h4]]
  obtain ⟨p, c, rfl, _, _⟩ := h
  have t1 : decide ((4000 : Int) < (l.length : Int)) = true := by simp; omega
  have t2 : decide (4000 < l.length) = true := by simp; omega
  go_enter Tryz.func6, Tryz.ntmps6
  go_wp2_with fail
  try any_goals (exfalso; omega; done)
  go_ret2
  exact ⟨rfl, Below.refl _ _⟩
theorem wlen_any (B b : Nat) (l : List UInt8) (w : World) (h : Bld B b l w) : Calls Tryz.prog 16 #[.pointer (some ⟨b, 0, none⟩)] w fun e w' => e = .returned (.int .i64 (l.length : Int)) ∧ w = w' := by
  refine (Tryz.Builder_Len_f B b _ w h).mono ?_
  rintro e w' ⟨rfl, rfl⟩
  exact ⟨by rw [Lib.byteCells_length], rfl⟩
theorem wstr_any (B b : Nat) (l : List UInt8) (w : World) (h : Bld B b l w) (hB : B ≤ w.heap.size) : Calls Tryz.prog 17 #[.pointer (some ⟨b, 0, none⟩)] w fun e w' => e = .returned (.string (tx l)) ∧ Below B w w' := by
  refine (Tryz.Builder_String_any_k B b l w h hB).mono ?_
  rintro e w' ⟨rfl, _, hb, _⟩
  exact ⟨rfl, hb⟩
/-- A builder stays where nothing of before is written. -/
theorem Bld.keep {B b : Nat} {l : List UInt8} {w w' : World} (h : Bld B b l w) (hb : Below w.heap.size w w') : Bld B b l w' := by
  have key : ∀ p, Lib.BuilderAtF 40 5 B b p (Lib.byteCells l) w → Lib.BuilderAtF 40 5 B b p (Lib.byteCells l) w' := by
    rintro p h
    have hlt := h.lt
    obtain ⟨hB, v, hbk, hown, hne⟩ := h
    refine ⟨hB, v, by rw [hb.block b hlt]; exact hbk, ?_, hne⟩
    have hl := hown.lt
    obtain ⟨h1, h2⟩ := hown
    refine ⟨h1, ?_⟩
    rcases h2 with h2 | ⟨g, cap, cur, fz, hv, hg, hh, r⟩
    · exact .inl h2
    · exact .inr ⟨g, cap, cur, fz, hv, hg, by rw [hb.block g (hl g (by subst hv; rfl)).2]; exact hh, r⟩
  rcases h with h | h
  · exact .inl (key _ h)
  · exact .inr (key _ h)
theorem bld_new (w : World) : Bld w.heap.size w.heap.size [] (w.alloc (.cells #[.pointer none, .slice none 0 0] 40)) :=
  Lib.IsBuilderF.of (Lib.fresh_isBuilder _ _ w)
end Go.Proofs.YtaengcbjpniclaaGreatDoor.Lx
