/- The schemas that the statements make. -/
import Derived.Test.YtdehldcgakdobaaGreatDoorScMade
namespace Go.Proofs.YtdehldcgakdobaaGreatDoor.Sc
open Go.RowKit Go.Lib Go.Proofs.YtdehldcgakdobaaGreatDoor.Bas Go.Proofs.YtdehldcgakdobaaGreatDoor.Cal Go.Proofs.YtdehldcgakdobaaGreatDoor.Lx
set_option linter.unusedVariables false

/-- The cells of attributes with these words' values. -/
def flat5 : List At → List Value → List Value
  | a :: L, u :: us => .string (tx a.nm) :: .int .i64 a.k :: u :: .int .i64 a.lo :: .int .i64 a.hi :: flat5 L us
  | _, _ => []
theorem flat5_at : ∀ (L : List At) (us : List Value) (i : Nat), us.length = L.length → i < L.length →
    (flat5 L us)[i * 5]? = some (.string (tx (at' L i).nm)) ∧ (flat5 L us)[i * 5 + 1]? = some (.int .i64 (at' L i).k) ∧ (flat5 L us)[i * 5 + 2]? = some (us.getD i undef) ∧ (flat5 L us)[i * 5 + 3]? = some (.int .i64 (at' L i).lo) ∧ (flat5 L us)[i * 5 + 4]? = some (.int .i64 (at' L i).hi) := by
  intro L
  induction L with
  | nil => intro us i _ h; simp at h
  | cons a L ih =>
    intro us i hl h
    cases us with
    | nil => simp at hl
    | cons u us =>
      cases i with
      | zero => simp [flat5, at']
      | succ i =>
        have := ih us i (by simpa using hl) (by simpa using h)
        rw [show (i + 1) * 5 = i * 5 + 1 + 1 + 1 + 1 + 1 by omega]
        simpa [flat5, at'] using this
def AttsIn (B : Nat) (w : World) (v : Value) (L : List At) : Prop :=
  ∃ p c, v = .slice p L.length c ∧ (L.length ≤ c ∧ (p = none → c = 0)) ∧ (0 < L.length → ∃ b off, p = some ⟨b, off, none⟩ ∧ B ≤ b ∧ ∀ j, j < L.length →
    w.cell? ⟨b, off + j * 5, none⟩ = some (.string (tx (at' L j).nm)) ∧ w.cell? ⟨b, off + j * 5 + 1, none⟩ = some (.int .i64 (at' L j).k) ∧ (∃ u, w.cell? ⟨b, off + j * 5 + 2, none⟩ = some u ∧ StrsIn B w u (at' L j).ws) ∧ w.cell? ⟨b, off + j * 5 + 3, none⟩ = some (.int .i64 (at' L j).lo) ∧ w.cell? ⟨b, off + j * 5 + 4, none⟩ = some (.int .i64 (at' L j).hi))
theorem AttsIn.at {B : Nat} {w : World} {v : Value} {L : List At} (h : AttsIn B w v L) : AttsAt w v L := by
  obtain ⟨p, c, hv, hc, hp⟩ := h
  refine ⟨p, c, hv, hc, fun h0 => ?_⟩
  obtain ⟨b, off, e, _, hh⟩ := hp h0
  refine ⟨b, off, e, fun j hj => ?_⟩
  obtain ⟨h1, h2, ⟨u, h3, h4⟩, h5, h6⟩ := hh j hj
  exact ⟨h1, h2, ⟨u, h3, h4.at⟩, h5, h6⟩
theorem AttsIn.set {B b0 o : Nat} {w : World} {v : Value} {L : List At} (h : AttsIn B w v L) (hb : b0 < B) (x : Value) : AttsIn B (w.setCell ⟨b0, o, none⟩ x) v L := by
  obtain ⟨p, c, hv, hcc, hp⟩ := h
  refine ⟨p, c, hv, hcc, fun h0 => ?_⟩
  obtain ⟨b, off, e, hB, hh⟩ := hp h0
  have key : ∀ i, (w.setCell ⟨b0, o, none⟩ x).cell? ⟨b, i, none⟩ = w.cell? ⟨b, i, none⟩ := fun i => World.cell?_setCell_other _ _ _ _ (by intro e; simp only [Addr.mk.injEq] at e; omega)
  refine ⟨b, off, e, hB, fun j hj => ?_⟩
  obtain ⟨h1, h2, ⟨u, h3, h4⟩, h5, h6⟩ := hh j hj
  exact ⟨(key _).trans h1, (key _).trans h2, ⟨u, (key _).trans h3, h4.set hb x⟩, (key _).trans h5, (key _).trans h6⟩
theorem attsIn_lit (B : Nat) (W : World) (L : List At) (us : List Value) (t : TypeId) (hB : B ≤ W.heap.size) (hl : us.length = L.length) (hS : ∀ i, i < L.length → StrsIn B W (us.getD i undef) (at' L i).ws) :
    AttsIn B (W.alloc (.cells (flat5 L us).toArray t)) (.slice (some ⟨W.heap.size, 0, none⟩) L.length L.length) L := by
  refine ⟨_, _, rfl, ⟨Nat.le_refl _, fun e => by cases e⟩, fun _ => ⟨W.heap.size, 0, rfl, hB, fun j hj => ?_⟩⟩
  obtain ⟨h1, h2, h3, h4, h5⟩ := flat5_at L us j hl hj
  have key : ∀ i v, (flat5 L us)[i]? = some v → (W.alloc (.cells (flat5 L us).toArray t)).cell? ⟨W.heap.size, i, none⟩ = some v := by
    intro i v hv
    simpa using hv
  refine ⟨key _ _ (by rw [Nat.zero_add]; exact h1), key _ _ (by rw [Nat.zero_add]; exact h2), ⟨_, key _ _ (by rw [Nat.zero_add]; exact h3), (hS j hj).below (alloc_at W _)⟩, key _ _ (by rw [Nat.zero_add]; exact h4), key _ _ (by rw [Nat.zero_add]; exact h5)⟩
def storeysA : At := ⟨[115, 116, 111, 114, 101, 121, 115], 2, [], 1, 9⟩
def alarmA : At := ⟨[97, 108, 97, 114, 109], 3, [], 0, 0⟩
def numA (lo hi : Int) : At := ⟨[110], 2, [], lo, hi⟩
def truthA (c : UInt8) : At := ⟨[c], 3, [], 0, 0⟩
def roleA : At := ⟨[114, 111, 108, 101], 1, [[99, 114, 101, 119], [103, 117, 101, 115, 116]], 0, 0⟩
def onlyA : At := ⟨[111, 110, 101], 1, [[111, 110, 108, 121]], 0, 0⟩
/-- The schema that is made of a number. -/
def madeS (k : Int) : List At :=
  if k = 0 then [perilA, storeysA, alarmA] else if k = 1 then [numA (-5) 20] else if k = 2 then [truthA 97, roleA, truthA 98]
  else if k = 3 then [numA (-1000000000) 1000000000, truthA 116] else if k = 4 then [onlyA, perilA, numA 0 6, truthA 116] else [truthA 116]
def MadeBe (L : List At) (w : World) (e : Ending) (w' : World) : Prop := ∃ u, e = .returned (.agg #[u]) ∧ AttsAt w' u L ∧ Below w.heap.size w w'
set_option maxHeartbeats 4000000 in
theorem made_0 (k : Int) (w : World) (h : ∀ w, Calls Tryz.prog 14 #[.int .i64 k, .int .i64 6] w fun e w' => e = .returned (.int .i64 0) ∧ w = w') : Calls Tryz.prog 5 #[.int .i64 k] w (MadeBe [perilA, storeysA, alarmA] w) := by
  have h' := Lib.hid h
  clear h
  have cP := Lib.hid (fun w => peril_any w)
  go_enter Tryz.func5, Tryz.ntmps5
  go_wp2_with fail
  refine (h'.out _).mono ?_; rintro e w' ⟨rfl, rfl⟩
  go_wp2_with fail
  refine (cP.out _).mono ?_; rintro e W1 ⟨u, rfl, hS, hB⟩
  obtain ⟨pu, cu, rfl, _, _⟩ := id hS
  have hs1 : w.heap.size + 1 ≤ W1.heap.size := by have := hB.size; simpa using this
  have hb : ∀ v : Value, (w.alloc (.cells #[v] 25)).cell? ⟨w.heap.size, 0, none⟩ = some v ∧ (w.alloc (.cells #[v] 25)).frozen? ⟨w.heap.size, 0, none⟩ = false := fun v => ⟨by simp, by simp⟩
  have x0 : ∀ o, (W1.alloc o).cell? ⟨w.heap.size, 0, none⟩ = some (.slice none 0 0) := fun o => by
    rw [(alloc_at W1 o).cell (p := ⟨w.heap.size, 0, none⟩) (show w.heap.size < W1.heap.size by omega), hB.cell (p := ⟨w.heap.size, 0, none⟩) (by simp)]; exact (hb _).1
  have f0 : ∀ o, (W1.alloc o).frozen? ⟨w.heap.size, 0, none⟩ = false := fun o => by
    rw [(alloc_at W1 o).frozen (p := ⟨w.heap.size, 0, none⟩) (show w.heap.size < W1.heap.size by omega), hB.frozen (p := ⟨w.heap.size, 0, none⟩) (by simp)]; exact (hb (.slice none 0 0)).2
  have S1 := Lib.hid (hS.mono (C := w.heap.size + 1) (by simp))
  have B1 := Lib.hid (trans_b (alloc_at w _) hB)
  clear hS hB hb
  unfold AtV
  go_wp2_with fail
  have hA := (attsIn_lit (w.heap.size + 1) W1 [perilA, storeysA, alarmA] [.slice pu 4 cu, .slice none 0 0, .slice none 0 0] 43 hs1 rfl (fun i hi => by
    have hi' : i < 3 := hi
    have hc : i = 0 ∨ i = 1 ∨ i = 2 := by omega
    rcases hc with rfl | rfl | rfl
    · exact S1.out
    · exact strsIn_nil _ _
    · exact strsIn_nil _ _)).set (b0 := w.heap.size) (o := 0) (Nat.lt_succ_self _) (.slice (some ⟨W1.heap.size, 0, none⟩) 3 3)
  have hBB := (trans_b B1.out (alloc_at W1 (.cells (flat5 [perilA, storeysA, alarmA] [.slice pu 4 cu, .slice none 0 0, .slice none 0 0]).toArray 43))).setCell (p := ⟨w.heap.size, 0, none⟩) (Nat.le_refl _) (.slice (some ⟨W1.heap.size, 0, none⟩) 3 3)
  have hx := World.cell?_setCell_same _ _ (.slice (some ⟨W1.heap.size, 0, none⟩) 3 3) (x0 (.cells (flat5 [perilA, storeysA, alarmA] [.slice pu 4 cu, .slice none 0 0, .slice none 0 0]).toArray 43))
  clear x0 f0
  show bodyPost _ _ _ _ _ ((W1.alloc (.cells (flat5 [perilA, storeysA, alarmA] [.slice pu 4 cu, .slice none 0 0, .slice none 0 0]).toArray 43)).setCell ⟨w.heap.size, 0, none⟩ (.slice (some ⟨W1.heap.size, 0, none⟩) 3 3))
  generalize (W1.alloc (.cells (flat5 [perilA, storeysA, alarmA] [.slice pu 4 cu, .slice none 0 0, .slice none 0 0]).toArray 43)).setCell ⟨w.heap.size, 0, none⟩ (.slice (some ⟨W1.heap.size, 0, none⟩) 3 3) = W9 at *
  exact bodyPost_ret (v := .agg #[.slice (some ⟨W1.heap.size, 0, none⟩) 3 3]) (by simp [results, Tryz.results5, go_sem, hx]) rfl ⟨_, rfl, hA.at, hBB⟩
end Go.Proofs.YtdehldcgakdobaaGreatDoor.Sc
