/- The schemas that the statements make: the other cases. -/
import Derived.Test.YtdehldcgakdobaaGreatDoorScMade2
namespace Go.Proofs.YtdehldcgakdobaaGreatDoor.Sc
open Go.RowKit Go.Lib Go.Proofs.YtdehldcgakdobaaGreatDoor.Bas Go.Proofs.YtdehldcgakdobaaGreatDoor.Cal Go.Proofs.YtdehldcgakdobaaGreatDoor.Lx
set_option linter.unusedVariables false

theorem attsIn_lit2 (B : Nat) (W : World) (L : List At) (us : List Value) (t : TypeId) (b : Nat) (hb : W.heap.size = b) (hB : B ≤ b) (hl : us.length = L.length) (hS : ∀ i, i < L.length → StrsIn B W (us.getD i undef) (at' L i).ws) :
    AttsIn B (W.alloc (.cells (flat5 L us).toArray t)) (.slice (some ⟨b, 0, none⟩) L.length L.length) L := by
  subst hb
  exact attsIn_lit B W L us t hB hl hS
theorem cell_alloc2 {W : World} {p : Addr} {v : Value} (o : Obj) (h : W.cell? p = some v) : (W.alloc o).cell? p = some v := by
  rw [(alloc_at W o).cell (p := p) (World.block_lt_of_cell? _ _ h)]; exact h
set_option maxHeartbeats 4000000 in
theorem made_1 (k : Int) (w : World) (h : ∀ w, Calls Tryz.prog 14 #[.int .i64 k, .int .i64 6] w fun e w' => e = .returned (.int .i64 1) ∧ w = w') : Calls Tryz.prog 5 #[.int .i64 k] w (MadeBe [numA (-5) 20] w) := by
  have h' := Lib.hid h
  clear h
  go_enter Tryz.func5, Tryz.ntmps5
  go_wp2_with fail
  refine (h'.out _).mono ?_; rintro e w' ⟨rfl, rfl⟩
  go_wp2_with fail
  have hA := attsIn_lit2 0 (w.alloc (.cells #[.slice (some ⟨w.heap.size + 1, 0, none⟩) 1 1] 25)) [numA (-5) 20] [.slice none 0 0] 43 (w.heap.size + 1) (by simp) (Nat.zero_le _) rfl (fun i hi => by
    have hi' : i < 1 := hi
    have hc : i = 0 := by omega
    rcases hc with rfl <;> exact strsIn_nil _ _)
  have hBB := trans_b (alloc_at w (.cells #[.slice (some ⟨w.heap.size + 1, 0, none⟩) 1 1] 25)) (alloc_at _ (.cells (flat5 [numA (-5) 20] [.slice none 0 0]).toArray 43))
  have hx := cell_alloc2 (.cells (flat5 [numA (-5) 20] [.slice none 0 0]).toArray 43) (show (w.alloc (.cells #[.slice (some ⟨w.heap.size + 1, 0, none⟩) 1 1] 25)).cell? ⟨w.heap.size, 0, none⟩ = some (.slice (some ⟨w.heap.size + 1, 0, none⟩) 1 1) by simp)
  show bodyPost _ _ _ _ _ ((w.alloc (.cells #[.slice (some ⟨w.heap.size + 1, 0, none⟩) 1 1] 25)).alloc (.cells (flat5 [numA (-5) 20] [.slice none 0 0]).toArray 43))
  generalize (w.alloc (.cells #[.slice (some ⟨w.heap.size + 1, 0, none⟩) 1 1] 25)).alloc (.cells (flat5 [numA (-5) 20] [.slice none 0 0]).toArray 43) = W9 at *
  exact bodyPost_ret (v := .agg #[.slice (some ⟨w.heap.size + 1, 0, none⟩) 1 1]) (by simp [results, Tryz.results5, go_sem, hx]) rfl ⟨_, rfl, hA.at, hBB⟩
set_option maxHeartbeats 4000000 in
theorem made_3 (k : Int) (w : World) (h : ∀ w, Calls Tryz.prog 14 #[.int .i64 k, .int .i64 6] w fun e w' => e = .returned (.int .i64 3) ∧ w = w') : Calls Tryz.prog 5 #[.int .i64 k] w (MadeBe [numA (-1000000000) 1000000000, truthA 116] w) := by
  have h' := Lib.hid h
  clear h
  go_enter Tryz.func5, Tryz.ntmps5
  go_wp2_with fail
  refine (h'.out _).mono ?_; rintro e w' ⟨rfl, rfl⟩
  go_wp2_with fail
  have hA := attsIn_lit2 0 (w.alloc (.cells #[.slice (some ⟨w.heap.size + 1, 0, none⟩) 2 2] 25)) [numA (-1000000000) 1000000000, truthA 116] [.slice none 0 0, .slice none 0 0] 43 (w.heap.size + 1) (by simp) (Nat.zero_le _) rfl (fun i hi => by
    have hi' : i < 2 := hi
    have hc : i = 0 ∨ i = 1 := by omega
    rcases hc with rfl | rfl <;> exact strsIn_nil _ _)
  have hBB := trans_b (alloc_at w (.cells #[.slice (some ⟨w.heap.size + 1, 0, none⟩) 2 2] 25)) (alloc_at _ (.cells (flat5 [numA (-1000000000) 1000000000, truthA 116] [.slice none 0 0, .slice none 0 0]).toArray 43))
  have hx := cell_alloc2 (.cells (flat5 [numA (-1000000000) 1000000000, truthA 116] [.slice none 0 0, .slice none 0 0]).toArray 43) (show (w.alloc (.cells #[.slice (some ⟨w.heap.size + 1, 0, none⟩) 2 2] 25)).cell? ⟨w.heap.size, 0, none⟩ = some (.slice (some ⟨w.heap.size + 1, 0, none⟩) 2 2) by simp)
  show bodyPost _ _ _ _ _ ((w.alloc (.cells #[.slice (some ⟨w.heap.size + 1, 0, none⟩) 2 2] 25)).alloc (.cells (flat5 [numA (-1000000000) 1000000000, truthA 116] [.slice none 0 0, .slice none 0 0]).toArray 43))
  generalize (w.alloc (.cells #[.slice (some ⟨w.heap.size + 1, 0, none⟩) 2 2] 25)).alloc (.cells (flat5 [numA (-1000000000) 1000000000, truthA 116] [.slice none 0 0, .slice none 0 0]).toArray 43) = W9 at *
  exact bodyPost_ret (v := .agg #[.slice (some ⟨w.heap.size + 1, 0, none⟩) 2 2]) (by simp [results, Tryz.results5, go_sem, hx]) rfl ⟨_, rfl, hA.at, hBB⟩
set_option maxHeartbeats 4000000 in
theorem made_5 (k : Int) (w : World) (h : ∀ w, Calls Tryz.prog 14 #[.int .i64 k, .int .i64 6] w fun e w' => e = .returned (.int .i64 5) ∧ w = w') : Calls Tryz.prog 5 #[.int .i64 k] w (MadeBe [truthA 116] w) := by
  have h' := Lib.hid h
  clear h
  go_enter Tryz.func5, Tryz.ntmps5
  go_wp2_with fail
  refine (h'.out _).mono ?_; rintro e w' ⟨rfl, rfl⟩
  go_wp2_with fail
  have hA := attsIn_lit2 0 (w.alloc (.cells #[.slice (some ⟨w.heap.size + 1, 0, none⟩) 1 1] 25)) [truthA 116] [.slice none 0 0] 43 (w.heap.size + 1) (by simp) (Nat.zero_le _) rfl (fun i hi => by
    have hi' : i < 1 := hi
    have hc : i = 0 := by omega
    rcases hc with rfl <;> exact strsIn_nil _ _)
  have hBB := trans_b (alloc_at w (.cells #[.slice (some ⟨w.heap.size + 1, 0, none⟩) 1 1] 25)) (alloc_at _ (.cells (flat5 [truthA 116] [.slice none 0 0]).toArray 43))
  have hx := cell_alloc2 (.cells (flat5 [truthA 116] [.slice none 0 0]).toArray 43) (show (w.alloc (.cells #[.slice (some ⟨w.heap.size + 1, 0, none⟩) 1 1] 25)).cell? ⟨w.heap.size, 0, none⟩ = some (.slice (some ⟨w.heap.size + 1, 0, none⟩) 1 1) by simp)
  show bodyPost _ _ _ _ _ ((w.alloc (.cells #[.slice (some ⟨w.heap.size + 1, 0, none⟩) 1 1] 25)).alloc (.cells (flat5 [truthA 116] [.slice none 0 0]).toArray 43))
  generalize (w.alloc (.cells #[.slice (some ⟨w.heap.size + 1, 0, none⟩) 1 1] 25)).alloc (.cells (flat5 [truthA 116] [.slice none 0 0]).toArray 43) = W9 at *
  exact bodyPost_ret (v := .agg #[.slice (some ⟨w.heap.size + 1, 0, none⟩) 1 1]) (by simp [results, Tryz.results5, go_sem, hx]) rfl ⟨_, rfl, hA.at, hBB⟩
theorem strs_lit (W : World) (ss : List (List UInt8)) (t : TypeId) (b : Nat) (hb : W.heap.size = b) (n : Nat) (hn : ss.length = n) : StrsIn 0 (W.alloc (.cells (ss.map fun s => Value.string (tx s)).toArray t)) (.slice (some ⟨b, 0, none⟩) n n) ss := by
  subst hb
  subst hn
  refine ⟨_, _, rfl, ⟨Nat.le_refl _, fun e => by cases e⟩, fun _ => ⟨W.heap.size, 0, rfl, Nat.zero_le _, fun j hj => ?_⟩⟩
  simp [hj]
set_option maxHeartbeats 4000000 in
theorem made_2 (k : Int) (w : World) (h : ∀ w, Calls Tryz.prog 14 #[.int .i64 k, .int .i64 6] w fun e w' => e = .returned (.int .i64 2) ∧ w = w') : Calls Tryz.prog 5 #[.int .i64 k] w (MadeBe [truthA 97, roleA, truthA 98] w) := by
  have h' := Lib.hid h
  clear h
  go_enter Tryz.func5, Tryz.ntmps5
  go_wp2_with fail
  refine (h'.out _).mono ?_; rintro e w' ⟨rfl, rfl⟩
  go_wp2_with fail
  have hS := strs_lit (w.alloc (.cells #[.slice (some ⟨w.heap.size + 2, 0, none⟩) 3 3] 25)) roleA.ws 9 (w.heap.size + 1) (by simp) 2 rfl
  have hA := attsIn_lit2 0 ((w.alloc (.cells #[.slice (some ⟨w.heap.size + 2, 0, none⟩) 3 3] 25)).alloc (.cells #[.string { data := #[99, 114, 101, 119] }, .string { data := #[103, 117, 101, 115, 116] }] 9)) [truthA 97, roleA, truthA 98] [.slice none 0 0, .slice (some ⟨w.heap.size + 1, 0, none⟩) 2 2, .slice none 0 0] 43 (w.heap.size + 2) (by simp) (Nat.zero_le _) rfl (fun i hi => by
    have hi' : i < 3 := hi
    have hc : i = 0 ∨ i = 1 ∨ i = 2 := by omega
    rcases hc with rfl | rfl | rfl
    · exact strsIn_nil _ _
    · exact hS
    · exact strsIn_nil _ _)
  have hBB := trans_b (trans_b (alloc_at w (.cells #[.slice (some ⟨w.heap.size + 2, 0, none⟩) 3 3] 25)) (alloc_at _ (.cells #[.string { data := #[99, 114, 101, 119] }, .string { data := #[103, 117, 101, 115, 116] }] 9))) (alloc_at _ (.cells (flat5 [truthA 97, roleA, truthA 98] [.slice none 0 0, .slice (some ⟨w.heap.size + 1, 0, none⟩) 2 2, .slice none 0 0]).toArray 43))
  have hx := cell_alloc2 (.cells (flat5 [truthA 97, roleA, truthA 98] [.slice none 0 0, .slice (some ⟨w.heap.size + 1, 0, none⟩) 2 2, .slice none 0 0]).toArray 43) (cell_alloc2 (.cells #[.string { data := #[99, 114, 101, 119] }, .string { data := #[103, 117, 101, 115, 116] }] 9) (show (w.alloc (.cells #[.slice (some ⟨w.heap.size + 2, 0, none⟩) 3 3] 25)).cell? ⟨w.heap.size, 0, none⟩ = some (.slice (some ⟨w.heap.size + 2, 0, none⟩) 3 3) by simp))
  show bodyPost _ _ _ _ _ (((w.alloc (.cells #[.slice (some ⟨w.heap.size + 2, 0, none⟩) 3 3] 25)).alloc (.cells #[.string { data := #[99, 114, 101, 119] }, .string { data := #[103, 117, 101, 115, 116] }] 9)).alloc (.cells (flat5 [truthA 97, roleA, truthA 98] [.slice none 0 0, .slice (some ⟨w.heap.size + 1, 0, none⟩) 2 2, .slice none 0 0]).toArray 43))
  generalize ((w.alloc (.cells #[.slice (some ⟨w.heap.size + 2, 0, none⟩) 3 3] 25)).alloc (.cells #[.string { data := #[99, 114, 101, 119] }, .string { data := #[103, 117, 101, 115, 116] }] 9)).alloc (.cells (flat5 [truthA 97, roleA, truthA 98] [.slice none 0 0, .slice (some ⟨w.heap.size + 1, 0, none⟩) 2 2, .slice none 0 0]).toArray 43) = W9 at *
  exact bodyPost_ret (v := .agg #[.slice (some ⟨w.heap.size + 2, 0, none⟩) 3 3]) (by simp [results, Tryz.results5, go_sem, hx]) rfl ⟨_, rfl, hA.at, hBB⟩
end Go.Proofs.YtdehldcgakdobaaGreatDoor.Sc
