/- Package lexer: the token at the beginning of a text. -/
import Derived.Test.YtaengcbjpniclaaGreatDoorLxEnv
import Derived.Test.YtaengcbjpniclaaGreatDoorLxNum
namespace Go.Proofs.YtaengcbjpniclaaGreatDoor.Lx
open Go.RowKit Go.Lib Go.Proofs.YtaengcbjpniclaaGreatDoor.Bas Go.Proofs.YtaengcbjpniclaaGreatDoor.Cal
set_option linter.unusedVariables false

set_option maxHeartbeats 1000000 in
theorem word_any (s : ByteArray) (w : World) (hs : s.size ≤ 16384) : Calls Tryz.prog 40 #[.string s] w (TokOut (wdV (bl s)) w) := by
  have c1 := Lib.hid (fun w => span_inWord s w (by omega))
  have hk := spn_le inW (bl s)
  rw [bl_size] at hk
  have c2 := Lib.hid (fun w => isWord_any (s.extract 0 (spn inW (bl s))) w (by rw [ByteArray.size_extract]; omega))
  rw [bl_take s _ hk] at c2
  have he := Lib.hid (tx_extract s 0 (spn inW (bl s)) hk)
  rw [List.drop_zero] at he
  unfold wdV
  generalize (bl s).take (spn inW (bl s)) = u at *
  generalize spn inW (bl s) = k at *
  obtain ⟨t, ht⟩ : ∃ t, s.extract 0 k = t := ⟨_, rfl⟩
  rw [ht] at he c2
  have hkk : (k : Int) ≤ (s.size : Int) := by omega
  have e1 : ∀ w, (Instr.slice 9 (.string s) none (some (.int .i64 (k : Int))) none).run Tryz.prog w = .ok (.string t) w := fun w => by
    rw [run_slice_string_h w _ s Tryz.underlying9 .i64 (k : Int) (by omega) hkk, Int.toNat_natCast, ht]
  clear ht hk hkk
  cases hb : wordB u with
  | false =>
    rw [hb] at c2
    rw [if_neg (by simp)]
    clear hb he
    go_enter Tryz.func40, Tryz.ntmps40
    go_wp2_with fail
    refine (c1.out _).mono ?_; rintro e w' ⟨rfl, rfl⟩
    go_wp2_with fail
    refine (c2.out _).mono ?_; rintro e w' ⟨rfl, rfl⟩
    go_wp2_with fail
    exact bodyPost_ret (v := .tuple #[tkV z0, .int .i64 0, .int .i64 6]) (by simp [results, Tryz.results40, go_sem, tkV, z0, tx]) rfl ⟨rfl, (Below.refl _ _).alloc (Nat.le_refl _) _⟩
  | true =>
    rw [hb] at c2
    rw [if_pos rfl]
    clear hb
    go_enter Tryz.func40, Tryz.ntmps40
    go_wp2_with fail
    refine (c1.out _).mono ?_; rintro e w' ⟨rfl, rfl⟩
    go_wp2_with fail
    refine (c2.out _).mono ?_; rintro e w' ⟨rfl, rfl⟩
    go_wp2_with fail
    exact bodyPost_ret (v := .tuple #[.agg #[.int .i64 1, .string t, .int .i64 0, .int .i64 0], .int .i64 (k : Int), .int .i64 0]) (by simp [results, Tryz.results40, go_sem]) rfl ⟨by rw [he.out]; rfl, (Below.refl _ _).alloc (Nat.le_refl _) _⟩

/-- The four cells of a token at the beginning of block b. -/
def TkAt (W : World) (b : Nat) (t : Tk) : Prop := b < W.heap.size ∧ (W.cell? ⟨b, 0, none⟩ = some (.int .i64 t.k) ∧ W.cell? ⟨b, 1, none⟩ = some (.string (tx t.t)) ∧ W.cell? ⟨b, 2, none⟩ = some (.int .i64 t.n) ∧ W.cell? ⟨b, 3, none⟩ = some (.int .i64 t.p)) ∧
  W.frozen? ⟨b, 0, none⟩ = false ∧ W.frozen? ⟨b, 1, none⟩ = false ∧ W.frozen? ⟨b, 2, none⟩ = false ∧ W.frozen? ⟨b, 3, none⟩ = false
theorem TkAt.new (w : World) (t : Tk) : TkAt (w.alloc (.cells #[.int .i64 t.k, .string (tx t.t), .int .i64 t.n, .int .i64 t.p] 25)) w.heap.size t := by
  refine ⟨by simp, ⟨by simp, by simp, by simp, by simp⟩, by simp, by simp, by simp, by simp⟩
theorem TkAt.keep {w w' : World} {b : Nat} {t : Tk} (h : TkAt w b t) (hb : Below w.heap.size w w') : TkAt w' b t := by
  obtain ⟨h0, ⟨h1, h2, h3, h4⟩, h5, h6, h7, h8⟩ := h
  refine ⟨Nat.lt_of_lt_of_le h0 hb.size, ⟨?_, ?_, ?_, ?_⟩, ?_, ?_, ?_, ?_⟩
  · rw [hb.cell (p := ⟨b, 0, none⟩) h0]; exact h1
  · rw [hb.cell (p := ⟨b, 1, none⟩) h0]; exact h2
  · rw [hb.cell (p := ⟨b, 2, none⟩) h0]; exact h3
  · rw [hb.cell (p := ⟨b, 3, none⟩) h0]; exact h4
  · rw [hb.frozen (p := ⟨b, 0, none⟩) h0]; exact h5
  · rw [hb.frozen (p := ⟨b, 1, none⟩) h0]; exact h6
  · rw [hb.frozen (p := ⟨b, 2, none⟩) h0]; exact h7
  · rw [hb.frozen (p := ⟨b, 3, none⟩) h0]; exact h8
/-- The world with the four cells of block b set. -/
def setTk (w : World) (b : Nat) (t : Tk) : World := (((w.setCell ⟨b, 0, none⟩ (.int .i64 t.k)).setCell ⟨b, 1, none⟩ (.string (tx t.t))).setCell ⟨b, 2, none⟩ (.int .i64 t.n)).setCell ⟨b, 3, none⟩ (.int .i64 t.p)
theorem TkAt.set {w : World} {b : Nat} {t : Tk} (h : TkAt w b t) (t' : Tk) : TkAt (setTk w b t') b t' := by
  obtain ⟨h0, ⟨h1, h2, h3, h4⟩, h5, h6, h7, h8⟩ := h
  unfold setTk
  refine ⟨by simpa using h0, ⟨?_, ?_, ?_, ?_⟩, ?_, ?_, ?_, ?_⟩
  · rw [World.cell?_setCell_other _ _ _ _ (by simp), World.cell?_setCell_other _ _ _ _ (by simp), World.cell?_setCell_other _ _ _ _ (by simp)]; exact World.cell?_setCell_same _ _ _ h1
  · rw [World.cell?_setCell_other _ _ _ _ (by simp), World.cell?_setCell_other _ _ _ _ (by simp)]; exact World.cell?_setCell_same _ _ _ (by rw [World.cell?_setCell_other _ _ _ _ (by simp)]; exact h2)
  · rw [World.cell?_setCell_other _ _ _ _ (by simp)]; exact World.cell?_setCell_same _ _ _ (by rw [World.cell?_setCell_other _ _ _ _ (by simp), World.cell?_setCell_other _ _ _ _ (by simp)]; exact h3)
  · exact World.cell?_setCell_same _ _ _ (by rw [World.cell?_setCell_other _ _ _ _ (by simp), World.cell?_setCell_other _ _ _ _ (by simp), World.cell?_setCell_other _ _ _ _ (by simp)]; exact h4)
  · rw [World.frozen?_setCell, World.frozen?_setCell, World.frozen?_setCell, World.frozen?_setCell]; exact h5
  · rw [World.frozen?_setCell, World.frozen?_setCell, World.frozen?_setCell, World.frozen?_setCell]; exact h6
  · rw [World.frozen?_setCell, World.frozen?_setCell, World.frozen?_setCell, World.frozen?_setCell]; exact h7
  · rw [World.frozen?_setCell, World.frozen?_setCell, World.frozen?_setCell, World.frozen?_setCell]; exact h8
theorem below_setTk {B : Nat} {a w : World} (h : Below B a w) {b : Nat} (hb : B ≤ b) (t : Tk) : Below B a (setTk w b t) := (((h.setCell hb _).setCell hb _).setCell hb _).setCell hb _
end Go.Proofs.YtaengcbjpniclaaGreatDoor.Lx
