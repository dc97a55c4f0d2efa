/- The schemas that the statements make: the last case; all. -/
import Derived.Test.YtdehldcgakdobaaGreatDoorScMade3
namespace Go.Proofs.YtdehldcgakdobaaGreatDoor.Sc
open Go.RowKit Go.Lib Go.Proofs.YtdehldcgakdobaaGreatDoor.Bas Go.Proofs.YtdehldcgakdobaaGreatDoor.Cal Go.Proofs.YtdehldcgakdobaaGreatDoor.Lx
set_option linter.unusedVariables false

theorem strs_lit2 (B : Nat) (W : World) (ss : List (List UInt8)) (t : TypeId) (b : Nat) (hb : W.heap.size = b) (hB : B ≤ b) (n : Nat) (hn : ss.length = n) : StrsIn B (W.alloc (.cells (ss.map fun s => Value.string (tx s)).toArray t)) (.slice (some ⟨b, 0, none⟩) n n) ss := by
  subst hb
  subst hn
  refine ⟨_, _, rfl, ⟨Nat.le_refl _, fun e => by cases e⟩, fun _ => ⟨W.heap.size, 0, rfl, hB, fun j hj => ?_⟩⟩
  simp [hj]
set_option maxHeartbeats 4000000 in
theorem made_4 (k : Int) (w : World) (h : ∀ w, Calls Tryz.prog 14 #[.int .i64 k, .int .i64 6] w fun e w' => e = .returned (.int .i64 4) ∧ w = w') : Calls Tryz.prog 5 #[.int .i64 k] w (MadeBe [onlyA, perilA, numA 0 6, truthA 116] w) := by
  have h' := Lib.hid h
  clear h
  have cP := Lib.hid (fun w => peril_any w)
  go_enter Tryz.func5, Tryz.ntmps5
  go_wp2_with fail
  refine (h'.out _).mono ?_; rintro e w' ⟨rfl, rfl⟩
  go_wp2_with fail
  refine (cP.out _).mono ?_; rintro e W1 ⟨u, rfl, hS, hB⟩
  obtain ⟨pu, cu, rfl, _, _⟩ := id hS
  have hs1 : w.heap.size + 2 ≤ W1.heap.size := by have := hB.size; simpa using this
  have x0 : ∀ o, (W1.alloc o).cell? ⟨w.heap.size, 0, none⟩ = some (.slice none 0 0) := fun o => by
    rw [(alloc_at W1 o).cell (p := ⟨w.heap.size, 0, none⟩) (show w.heap.size < W1.heap.size by omega), hB.cell (p := ⟨w.heap.size, 0, none⟩) (by show w.heap.size < ((w.alloc (.cells #[.slice none 0 0] 25)).alloc (.cells #[.string { data := #[111, 110, 108, 121] }] 9)).heap.size; simp; omega)]
    exact cell_alloc2 _ (show (w.alloc (.cells #[.slice none 0 0] 25)).cell? ⟨w.heap.size, 0, none⟩ = some (.slice none 0 0) by simp)
  have f0 : ∀ o, (W1.alloc o).frozen? ⟨w.heap.size, 0, none⟩ = false := fun o => by
    rw [(alloc_at W1 o).frozen (p := ⟨w.heap.size, 0, none⟩) (show w.heap.size < W1.heap.size by omega), hB.frozen (p := ⟨w.heap.size, 0, none⟩) (by show w.heap.size < ((w.alloc (.cells #[.slice none 0 0] 25)).alloc (.cells #[.string { data := #[111, 110, 108, 121] }] 9)).heap.size; simp; omega), (alloc_at (w.alloc (.cells #[.slice none 0 0] 25)) _).frozen (p := ⟨w.heap.size, 0, none⟩) (by simp)]
    simp
  have S1 := Lib.hid (hS.mono (C := w.heap.size + 1) (by simp))
  have S2 := Lib.hid ((strs_lit2 (w.heap.size + 1) (w.alloc (.cells #[.slice none 0 0] 25)) onlyA.ws 9 (w.heap.size + 1) (by simp) (Nat.le_refl _) 1 rfl).below hB)
  have B1 := Lib.hid (trans_b (trans_b (alloc_at w _) (alloc_at _ _)) hB)
  clear hS hB
  unfold AtV
  go_wp2_with fail
  have hA := (attsIn_lit (w.heap.size + 1) W1 [onlyA, perilA, numA 0 6, truthA 116] [.slice (some ⟨w.heap.size + 1, 0, none⟩) 1 1, .slice pu 4 cu, .slice none 0 0, .slice none 0 0] 43 (by omega) rfl (fun i hi => by
    have hi' : i < 4 := hi
    have hc : i = 0 ∨ i = 1 ∨ i = 2 ∨ i = 3 := by omega
    rcases hc with rfl | rfl | rfl | rfl
    · exact S2.out
    · exact S1.out
    · exact strsIn_nil _ _
    · exact strsIn_nil _ _)).set (b0 := w.heap.size) (o := 0) (Nat.lt_succ_self _) (.slice (some ⟨W1.heap.size, 0, none⟩) 4 4)
  have hBB := (trans_b B1.out (alloc_at W1 (.cells (flat5 [onlyA, perilA, numA 0 6, truthA 116] [.slice (some ⟨w.heap.size + 1, 0, none⟩) 1 1, .slice pu 4 cu, .slice none 0 0, .slice none 0 0]).toArray 43))).setCell (p := ⟨w.heap.size, 0, none⟩) (Nat.le_refl _) (.slice (some ⟨W1.heap.size, 0, none⟩) 4 4)
  have hx := World.cell?_setCell_same _ _ (.slice (some ⟨W1.heap.size, 0, none⟩) 4 4) (x0 (.cells (flat5 [onlyA, perilA, numA 0 6, truthA 116] [.slice (some ⟨w.heap.size + 1, 0, none⟩) 1 1, .slice pu 4 cu, .slice none 0 0, .slice none 0 0]).toArray 43))
  clear x0 f0
  show bodyPost _ _ _ _ _ ((W1.alloc (.cells (flat5 [onlyA, perilA, numA 0 6, truthA 116] [.slice (some ⟨w.heap.size + 1, 0, none⟩) 1 1, .slice pu 4 cu, .slice none 0 0, .slice none 0 0]).toArray 43)).setCell ⟨w.heap.size, 0, none⟩ (.slice (some ⟨W1.heap.size, 0, none⟩) 4 4))
  generalize (W1.alloc (.cells (flat5 [onlyA, perilA, numA 0 6, truthA 116] [.slice (some ⟨w.heap.size + 1, 0, none⟩) 1 1, .slice pu 4 cu, .slice none 0 0, .slice none 0 0]).toArray 43)).setCell ⟨w.heap.size, 0, none⟩ (.slice (some ⟨W1.heap.size, 0, none⟩) 4 4) = W9 at *
  exact bodyPost_ret (v := .agg #[.slice (some ⟨W1.heap.size, 0, none⟩) 4 4]) (by simp [results, Tryz.results5, go_sem, hx]) rfl ⟨_, rfl, hA.at, hBB⟩
/-- The schema that is made of a number. -/
theorem made_any (k : Int) (w : World) (h1 : -9223372036854775808 ≤ k) (h2 : k ≤ 9223372036854775807) : Calls Tryz.prog 5 #[.int .i64 k] w (MadeBe (madeS (wi k 6)) w) := by
  have hw := fun w => within_any k 6 w h1 h2 (by omega) (by omega)
  obtain ⟨b1, b2⟩ := wi_bd k 6 (by omega)
  have hc : wi k 6 = 0 ∨ wi k 6 = 1 ∨ wi k 6 = 2 ∨ wi k 6 = 3 ∨ wi k 6 = 4 ∨ wi k 6 = 5 := by omega
  unfold madeS
  rcases hc with e | e | e | e | e | e <;> rw [e] at hw ⊢
  · rw [if_pos rfl]; exact made_0 k w hw
  · rw [if_neg (by decide), if_pos rfl]; exact made_1 k w hw
  · rw [if_neg (by decide), if_neg (by decide), if_pos rfl]; exact made_2 k w hw
  · rw [if_neg (by decide), if_neg (by decide), if_neg (by decide), if_pos rfl]; exact made_3 k w hw
  · rw [if_neg (by decide), if_neg (by decide), if_neg (by decide), if_neg (by decide), if_pos rfl]; exact made_4 k w hw
  · rw [if_neg (by decide), if_neg (by decide), if_neg (by decide), if_neg (by decide), if_neg (by decide)]; exact made_5 k w hw
instance (a : At) : Decidable (AtWf a) := by unfold AtWf WsWf; infer_instance
theorem made_ok (x : Int) (h : 0 ≤ x ∧ x ≤ 5) : schE (madeS x) = 0 ∧ (∀ a ∈ madeS x, AtWf a) := by
  have hc : x = 0 ∨ x = 1 ∨ x = 2 ∨ x = 3 ∨ x = 4 ∨ x = 5 := by omega
  have key : ∀ L : List At, (L.all fun a => decide (AtWf a)) = true → ∀ a ∈ L, AtWf a := fun L hL a ha => of_decide_eq_true (List.all_eq_true.1 hL a ha)
  rcases hc with rfl | rfl | rfl | rfl | rfl | rfl
  all_goals exact ⟨by kernel_rfl, key _ (by kernel_rfl)⟩
end Go.Proofs.YtdehldcgakdobaaGreatDoor.Sc
