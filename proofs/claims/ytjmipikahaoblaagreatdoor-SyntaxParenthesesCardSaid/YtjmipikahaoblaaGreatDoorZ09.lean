/- The schemas that the statements make: the other cases. The schemas that the statements make: the last case; all. The expressions that the statements make: what they are like; the deck's Range; lists of words of an attribute in turn. What the maker of expressions holds while it goes on; an expression without arguments. The maker's expressions without arguments. An expression that was written is rea -/
import Derived.Test.YtjmipikahaoblaaGreatDoorZ08
import Derived.Test.YtjmipikahaoblaaGreatDoorZ07
import Derived.Deep.RegionLaw
import Derived.Test.YtjmipikahaoblaaGreatDoorZ05
import Derived.Test.YtjmipikahaoblaaGreatDoorZ03
import Derived.Lib.ItoaLen
namespace Go.Proofs.YtjmipikahaoblaaGreatDoor.Sc
open Go.RowKit Go.Lib Go.Proofs.YtjmipikahaoblaaGreatDoor.Bas Go.Proofs.YtjmipikahaoblaaGreatDoor.Cal Go.Proofs.YtjmipikahaoblaaGreatDoor.Lx
set_option linter.unusedVariables false

theorem attsIn_lit2 (B : Nat) (W : World) (L : List At) (us : List Value) (t : TypeId) (b : Nat) (hb : W.heap.size = b) (hB : B ≤ b) (hl : us.length = L.length) (hS : ∀ i, i < L.length → StrsIn B W (us.getD i undef) (at' L i).ws) :
    AttsIn B (W.alloc (.cells (flat5 L us).toArray t)) (.slice (some ⟨b, 0, none⟩) L.length L.length) L := by
  subst hb
  exact attsIn_lit B W L us t hB hl hS
theorem cell_alloc2 {W : World} {p : Addr} {v : Value} (o : Obj) (h : W.cell? p = some v) : (W.alloc o).cell? p = some v := by
  rw [(alloc_at W o).cell (p := p) (World.block_lt_of_cell? _ _ h)]; exact h
set_option maxHeartbeats 4000000 in
theorem made_1 (k : Int) (w : World) (h : ∀ w, Calls Tryz.prog 33 #[.int .i64 k, .int .i64 6] w fun e w' => e = .returned (.int .i64 1) ∧ w = w') : Calls Tryz.prog 35 #[.int .i64 k] w (MadeIn [numA (-5) 20] w) := by
  have h' := Lib.hid h
  clear h
  go_enter Tryz.func35, Tryz.ntmps35
  go_wp2_with fail
  refine (h'.out _).mono ?_; rintro e w' ⟨rfl, rfl⟩
  go_wp2_with fail
  have hA := attsIn_lit2 w.heap.size (w.alloc (.cells #[.slice (some ⟨w.heap.size + 1, 0, none⟩) 1 1] 57)) [numA (-5) 20] [.slice none 0 0] 84 (w.heap.size + 1) (by simp) (by omega) rfl (fun i hi => by
    have hi' : i < 1 := hi
    have hc : i = 0 := by omega
    rcases hc with rfl <;> exact strsIn_nil _ _)
  have hBB := trans_b (alloc_at w (.cells #[.slice (some ⟨w.heap.size + 1, 0, none⟩) 1 1] 57)) (alloc_at _ (.cells (flat5 [numA (-5) 20] [.slice none 0 0]).toArray 84))
  have hx := cell_alloc2 (.cells (flat5 [numA (-5) 20] [.slice none 0 0]).toArray 84) (show (w.alloc (.cells #[.slice (some ⟨w.heap.size + 1, 0, none⟩) 1 1] 57)).cell? ⟨w.heap.size, 0, none⟩ = some (.slice (some ⟨w.heap.size + 1, 0, none⟩) 1 1) by simp)
  show bodyPost _ _ _ _ _ ((w.alloc (.cells #[.slice (some ⟨w.heap.size + 1, 0, none⟩) 1 1] 57)).alloc (.cells (flat5 [numA (-5) 20] [.slice none 0 0]).toArray 84))
  generalize (w.alloc (.cells #[.slice (some ⟨w.heap.size + 1, 0, none⟩) 1 1] 57)).alloc (.cells (flat5 [numA (-5) 20] [.slice none 0 0]).toArray 84) = W9 at *
  exact bodyPost_ret (v := .agg #[.slice (some ⟨w.heap.size + 1, 0, none⟩) 1 1]) (by simp [results, Tryz.results35, go_sem, hx]) rfl ⟨_, rfl, hA, hBB⟩
set_option maxHeartbeats 4000000 in
theorem made_3 (k : Int) (w : World) (h : ∀ w, Calls Tryz.prog 33 #[.int .i64 k, .int .i64 6] w fun e w' => e = .returned (.int .i64 3) ∧ w = w') : Calls Tryz.prog 35 #[.int .i64 k] w (MadeIn [numA (-1000000000) 1000000000, truthA 116] w) := by
  have h' := Lib.hid h
  clear h
  go_enter Tryz.func35, Tryz.ntmps35
  go_wp2_with fail
  refine (h'.out _).mono ?_; rintro e w' ⟨rfl, rfl⟩
  go_wp2_with fail
  have hA := attsIn_lit2 w.heap.size (w.alloc (.cells #[.slice (some ⟨w.heap.size + 1, 0, none⟩) 2 2] 57)) [numA (-1000000000) 1000000000, truthA 116] [.slice none 0 0, .slice none 0 0] 84 (w.heap.size + 1) (by simp) (by omega) rfl (fun i hi => by
    have hi' : i < 2 := hi
    have hc : i = 0 ∨ i = 1 := by omega
    rcases hc with rfl | rfl <;> exact strsIn_nil _ _)
  have hBB := trans_b (alloc_at w (.cells #[.slice (some ⟨w.heap.size + 1, 0, none⟩) 2 2] 57)) (alloc_at _ (.cells (flat5 [numA (-1000000000) 1000000000, truthA 116] [.slice none 0 0, .slice none 0 0]).toArray 84))
  have hx := cell_alloc2 (.cells (flat5 [numA (-1000000000) 1000000000, truthA 116] [.slice none 0 0, .slice none 0 0]).toArray 84) (show (w.alloc (.cells #[.slice (some ⟨w.heap.size + 1, 0, none⟩) 2 2] 57)).cell? ⟨w.heap.size, 0, none⟩ = some (.slice (some ⟨w.heap.size + 1, 0, none⟩) 2 2) by simp)
  show bodyPost _ _ _ _ _ ((w.alloc (.cells #[.slice (some ⟨w.heap.size + 1, 0, none⟩) 2 2] 57)).alloc (.cells (flat5 [numA (-1000000000) 1000000000, truthA 116] [.slice none 0 0, .slice none 0 0]).toArray 84))
  generalize (w.alloc (.cells #[.slice (some ⟨w.heap.size + 1, 0, none⟩) 2 2] 57)).alloc (.cells (flat5 [numA (-1000000000) 1000000000, truthA 116] [.slice none 0 0, .slice none 0 0]).toArray 84) = W9 at *
  exact bodyPost_ret (v := .agg #[.slice (some ⟨w.heap.size + 1, 0, none⟩) 2 2]) (by simp [results, Tryz.results35, go_sem, hx]) rfl ⟨_, rfl, hA, hBB⟩
set_option maxHeartbeats 4000000 in
theorem made_5 (k : Int) (w : World) (h : ∀ w, Calls Tryz.prog 33 #[.int .i64 k, .int .i64 6] w fun e w' => e = .returned (.int .i64 5) ∧ w = w') : Calls Tryz.prog 35 #[.int .i64 k] w (MadeIn [truthA 116] w) := by
  have h' := Lib.hid h
  clear h
  go_enter Tryz.func35, Tryz.ntmps35
  go_wp2_with fail
  refine (h'.out _).mono ?_; rintro e w' ⟨rfl, rfl⟩
  go_wp2_with fail
  have hA := attsIn_lit2 w.heap.size (w.alloc (.cells #[.slice (some ⟨w.heap.size + 1, 0, none⟩) 1 1] 57)) [truthA 116] [.slice none 0 0] 84 (w.heap.size + 1) (by simp) (by omega) rfl (fun i hi => by
    have hi' : i < 1 := hi
    have hc : i = 0 := by omega
    rcases hc with rfl <;> exact strsIn_nil _ _)
  have hBB := trans_b (alloc_at w (.cells #[.slice (some ⟨w.heap.size + 1, 0, none⟩) 1 1] 57)) (alloc_at _ (.cells (flat5 [truthA 116] [.slice none 0 0]).toArray 84))
  have hx := cell_alloc2 (.cells (flat5 [truthA 116] [.slice none 0 0]).toArray 84) (show (w.alloc (.cells #[.slice (some ⟨w.heap.size + 1, 0, none⟩) 1 1] 57)).cell? ⟨w.heap.size, 0, none⟩ = some (.slice (some ⟨w.heap.size + 1, 0, none⟩) 1 1) by simp)
  show bodyPost _ _ _ _ _ ((w.alloc (.cells #[.slice (some ⟨w.heap.size + 1, 0, none⟩) 1 1] 57)).alloc (.cells (flat5 [truthA 116] [.slice none 0 0]).toArray 84))
  generalize (w.alloc (.cells #[.slice (some ⟨w.heap.size + 1, 0, none⟩) 1 1] 57)).alloc (.cells (flat5 [truthA 116] [.slice none 0 0]).toArray 84) = W9 at *
  exact bodyPost_ret (v := .agg #[.slice (some ⟨w.heap.size + 1, 0, none⟩) 1 1]) (by simp [results, Tryz.results35, go_sem, hx]) rfl ⟨_, rfl, hA, hBB⟩
theorem strs_lit (B : Nat) (W : World) (ss : List (List UInt8)) (t : TypeId) (b : Nat) (hb : W.heap.size = b) (hB : B ≤ b) (n : Nat) (hn : ss.length = n) : StrsIn B (W.alloc (.cells (ss.map fun s => Value.string (tx s)).toArray t)) (.slice (some ⟨b, 0, none⟩) n n) ss := by
  subst hb
  subst hn
  refine ⟨_, _, rfl, ⟨Nat.le_refl _, fun e => by cases e⟩, fun _ => ⟨W.heap.size, 0, rfl, hB, fun j hj => ?_⟩⟩
  simp [hj]
set_option maxHeartbeats 4000000 in
theorem made_2 (k : Int) (w : World) (h : ∀ w, Calls Tryz.prog 33 #[.int .i64 k, .int .i64 6] w fun e w' => e = .returned (.int .i64 2) ∧ w = w') : Calls Tryz.prog 35 #[.int .i64 k] w (MadeIn [truthA 97, roleA, truthA 98] w) := by
  have h' := Lib.hid h
  clear h
  go_enter Tryz.func35, Tryz.ntmps35
  go_wp2_with fail
  refine (h'.out _).mono ?_; rintro e w' ⟨rfl, rfl⟩
  go_wp2_with fail
  have hS := strs_lit w.heap.size (w.alloc (.cells #[.slice (some ⟨w.heap.size + 2, 0, none⟩) 3 3] 57)) roleA.ws 9 (w.heap.size + 1) (by simp) (by omega) 2 rfl
  have hA := attsIn_lit2 w.heap.size ((w.alloc (.cells #[.slice (some ⟨w.heap.size + 2, 0, none⟩) 3 3] 57)).alloc (.cells #[.string { data := #[99, 114, 101, 119] }, .string { data := #[103, 117, 101, 115, 116] }] 9)) [truthA 97, roleA, truthA 98] [.slice none 0 0, .slice (some ⟨w.heap.size + 1, 0, none⟩) 2 2, .slice none 0 0] 84 (w.heap.size + 2) (by simp) (by omega) rfl (fun i hi => by
    have hi' : i < 3 := hi
    have hc : i = 0 ∨ i = 1 ∨ i = 2 := by omega
    rcases hc with rfl | rfl | rfl
    · exact strsIn_nil _ _
    · exact hS
    · exact strsIn_nil _ _)
  have hBB := trans_b (trans_b (alloc_at w (.cells #[.slice (some ⟨w.heap.size + 2, 0, none⟩) 3 3] 57)) (alloc_at _ (.cells #[.string { data := #[99, 114, 101, 119] }, .string { data := #[103, 117, 101, 115, 116] }] 9))) (alloc_at _ (.cells (flat5 [truthA 97, roleA, truthA 98] [.slice none 0 0, .slice (some ⟨w.heap.size + 1, 0, none⟩) 2 2, .slice none 0 0]).toArray 84))
  have hx := cell_alloc2 (.cells (flat5 [truthA 97, roleA, truthA 98] [.slice none 0 0, .slice (some ⟨w.heap.size + 1, 0, none⟩) 2 2, .slice none 0 0]).toArray 84) (cell_alloc2 (.cells #[.string { data := #[99, 114, 101, 119] }, .string { data := #[103, 117, 101, 115, 116] }] 9) (show (w.alloc (.cells #[.slice (some ⟨w.heap.size + 2, 0, none⟩) 3 3] 57)).cell? ⟨w.heap.size, 0, none⟩ = some (.slice (some ⟨w.heap.size + 2, 0, none⟩) 3 3) by simp))
  show bodyPost _ _ _ _ _ (((w.alloc (.cells #[.slice (some ⟨w.heap.size + 2, 0, none⟩) 3 3] 57)).alloc (.cells #[.string { data := #[99, 114, 101, 119] }, .string { data := #[103, 117, 101, 115, 116] }] 9)).alloc (.cells (flat5 [truthA 97, roleA, truthA 98] [.slice none 0 0, .slice (some ⟨w.heap.size + 1, 0, none⟩) 2 2, .slice none 0 0]).toArray 84))
  generalize ((w.alloc (.cells #[.slice (some ⟨w.heap.size + 2, 0, none⟩) 3 3] 57)).alloc (.cells #[.string { data := #[99, 114, 101, 119] }, .string { data := #[103, 117, 101, 115, 116] }] 9)).alloc (.cells (flat5 [truthA 97, roleA, truthA 98] [.slice none 0 0, .slice (some ⟨w.heap.size + 1, 0, none⟩) 2 2, .slice none 0 0]).toArray 84) = W9 at *
  exact bodyPost_ret (v := .agg #[.slice (some ⟨w.heap.size + 2, 0, none⟩) 3 3]) (by simp [results, Tryz.results35, go_sem, hx]) rfl ⟨_, rfl, hA, hBB⟩
end Go.Proofs.YtjmipikahaoblaaGreatDoor.Sc
namespace Go.Proofs.YtjmipikahaoblaaGreatDoor.Sc
open Go.RowKit Go.Lib Go.Proofs.YtjmipikahaoblaaGreatDoor.Bas Go.Proofs.YtjmipikahaoblaaGreatDoor.Cal Go.Proofs.YtjmipikahaoblaaGreatDoor.Lx
set_option linter.unusedVariables false

theorem strs_lit2 (B : Nat) (W : World) (ss : List (List UInt8)) (t : TypeId) (b : Nat) (hb : W.heap.size = b) (hB : B ≤ b) (n : Nat) (hn : ss.length = n) : StrsIn B (W.alloc (.cells (ss.map fun s => Value.string (tx s)).toArray t)) (.slice (some ⟨b, 0, none⟩) n n) ss := by
  subst hb
  subst hn
  refine ⟨_, _, rfl, ⟨Nat.le_refl _, fun e => by cases e⟩, fun _ => ⟨W.heap.size, 0, rfl, hB, fun j hj => ?_⟩⟩
  simp [hj]
set_option maxHeartbeats 4000000 in
theorem made_4 (k : Int) (w : World) (h : ∀ w, Calls Tryz.prog 33 #[.int .i64 k, .int .i64 6] w fun e w' => e = .returned (.int .i64 4) ∧ w = w') : Calls Tryz.prog 35 #[.int .i64 k] w (MadeIn [onlyA, perilA, numA 0 6, truthA 116] w) := by
  have h' := Lib.hid h
  clear h
  have cP := Lib.hid (fun w => peril_any w)
  go_enter Tryz.func35, Tryz.ntmps35
  go_wp2_with fail
  refine (h'.out _).mono ?_; rintro e w' ⟨rfl, rfl⟩
  go_wp2_with fail
  refine (cP.out _).mono ?_; rintro e W1 ⟨u, rfl, hS, hB⟩
  obtain ⟨pu, cu, rfl, _, _⟩ := id hS
  have hs1 : w.heap.size + 2 ≤ W1.heap.size := by have := hB.size; simpa using this
  have x0 : ∀ o, (W1.alloc o).cell? ⟨w.heap.size, 0, none⟩ = some (.slice none 0 0) := fun o => by
    rw [(alloc_at W1 o).cell (p := ⟨w.heap.size, 0, none⟩) (show w.heap.size < W1.heap.size by omega), hB.cell (p := ⟨w.heap.size, 0, none⟩) (by show w.heap.size < ((w.alloc (.cells #[.slice none 0 0] 57)).alloc (.cells #[.string { data := #[111, 110, 108, 121] }] 9)).heap.size; simp; omega)]
    exact cell_alloc2 _ (show (w.alloc (.cells #[.slice none 0 0] 57)).cell? ⟨w.heap.size, 0, none⟩ = some (.slice none 0 0) by simp)
  have f0 : ∀ o, (W1.alloc o).frozen? ⟨w.heap.size, 0, none⟩ = false := fun o => by
    rw [(alloc_at W1 o).frozen (p := ⟨w.heap.size, 0, none⟩) (show w.heap.size < W1.heap.size by omega), hB.frozen (p := ⟨w.heap.size, 0, none⟩) (by show w.heap.size < ((w.alloc (.cells #[.slice none 0 0] 57)).alloc (.cells #[.string { data := #[111, 110, 108, 121] }] 9)).heap.size; simp; omega), (alloc_at (w.alloc (.cells #[.slice none 0 0] 57)) _).frozen (p := ⟨w.heap.size, 0, none⟩) (by simp)]
    simp
  have S1 := Lib.hid (hS.mono (C := w.heap.size + 1) (by simp))
  have S2 := Lib.hid ((strs_lit2 (w.heap.size + 1) (w.alloc (.cells #[.slice none 0 0] 57)) onlyA.ws 9 (w.heap.size + 1) (by simp) (Nat.le_refl _) 1 rfl).below hB)
  have B1 := Lib.hid (trans_b (trans_b (alloc_at w _) (alloc_at _ _)) hB)
  clear hS hB
  unfold AtV
  go_wp2_with fail
  have hA := (attsIn_lit (w.heap.size + 1) W1 [onlyA, perilA, numA 0 6, truthA 116] [.slice (some ⟨w.heap.size + 1, 0, none⟩) 1 1, .slice pu 4 cu, .slice none 0 0, .slice none 0 0] 84 (by omega) rfl (fun i hi => by
    have hi' : i < 4 := hi
    have hc : i = 0 ∨ i = 1 ∨ i = 2 ∨ i = 3 := by omega
    rcases hc with rfl | rfl | rfl | rfl
    · exact S2.out
    · exact S1.out
    · exact strsIn_nil _ _
    · exact strsIn_nil _ _)).set (b0 := w.heap.size) (o := 0) (Nat.lt_succ_self _) (.slice (some ⟨W1.heap.size, 0, none⟩) 4 4)
  have hBB := (trans_b B1.out (alloc_at W1 (.cells (flat5 [onlyA, perilA, numA 0 6, truthA 116] [.slice (some ⟨w.heap.size + 1, 0, none⟩) 1 1, .slice pu 4 cu, .slice none 0 0, .slice none 0 0]).toArray 84))).setCell (p := ⟨w.heap.size, 0, none⟩) (Nat.le_refl _) (.slice (some ⟨W1.heap.size, 0, none⟩) 4 4)
  have hx := World.cell?_setCell_same _ _ (.slice (some ⟨W1.heap.size, 0, none⟩) 4 4) (x0 (.cells (flat5 [onlyA, perilA, numA 0 6, truthA 116] [.slice (some ⟨w.heap.size + 1, 0, none⟩) 1 1, .slice pu 4 cu, .slice none 0 0, .slice none 0 0]).toArray 84))
  clear x0 f0
  show bodyPost _ _ _ _ _ ((W1.alloc (.cells (flat5 [onlyA, perilA, numA 0 6, truthA 116] [.slice (some ⟨w.heap.size + 1, 0, none⟩) 1 1, .slice pu 4 cu, .slice none 0 0, .slice none 0 0]).toArray 84)).setCell ⟨w.heap.size, 0, none⟩ (.slice (some ⟨W1.heap.size, 0, none⟩) 4 4))
  generalize (W1.alloc (.cells (flat5 [onlyA, perilA, numA 0 6, truthA 116] [.slice (some ⟨w.heap.size + 1, 0, none⟩) 1 1, .slice pu 4 cu, .slice none 0 0, .slice none 0 0]).toArray 84)).setCell ⟨w.heap.size, 0, none⟩ (.slice (some ⟨W1.heap.size, 0, none⟩) 4 4) = W9 at *
  exact bodyPost_ret (v := .agg #[.slice (some ⟨W1.heap.size, 0, none⟩) 4 4]) (by simp [results, Tryz.results35, go_sem, hx]) rfl ⟨_, rfl, hA.mono (Nat.le_succ _), hBB⟩
/-- The schema that is made of a number. -/
theorem madeIn_any (k : Int) (w : World) (h1 : -9223372036854775808 ≤ k) (h2 : k ≤ 9223372036854775807) : Calls Tryz.prog 35 #[.int .i64 k] w (MadeIn (madeS (wi k 6)) w) := by
  have hw := fun w => within_any k 6 w h1 h2 (by omega) (by omega)
  obtain ⟨b1, b2⟩ := wi_bd k 6 (by omega)
  have hc : wi k 6 = 0 ∨ wi k 6 = 1 ∨ wi k 6 = 2 ∨ wi k 6 = 3 ∨ wi k 6 = 4 ∨ wi k 6 = 5 := by omega
  unfold madeS
  rcases hc with e | e | e | e | e | e <;> rw [e] at hw ⊢
  · rw [if_pos rfl]; exact made_0 k w hw
  · rw [if_neg (by decide), if_pos rfl]; exact made_1 k w hw
  · rw [if_neg (by decide), if_neg (by decide), if_pos rfl]; exact made_2 k w hw
  · rw [if_neg (by decide), if_neg (by decide), if_neg (by decide), if_pos rfl]; exact made_3 k w hw
  · rw [if_neg (by decide), if_neg (by decide), if_neg (by decide), if_neg (by decide), if_pos rfl]; exact made_4 k w hw
  · rw [if_neg (by decide), if_neg (by decide), if_neg (by decide), if_neg (by decide), if_neg (by decide)]; exact made_5 k w hw
theorem made_any (k : Int) (w : World) (h1 : -9223372036854775808 ≤ k) (h2 : k ≤ 9223372036854775807) : Calls Tryz.prog 35 #[.int .i64 k] w (MadeBe (madeS (wi k 6)) w) :=
  (madeIn_any k w h1 h2).mono fun e w' ⟨u, he, hA, hB⟩ => ⟨u, he, hA.at, hB⟩
instance (a : At) : Decidable (AtWf a) := by unfold AtWf WsWf; infer_instance
theorem made_ok (x : Int) (h : 0 ≤ x ∧ x ≤ 5) : schE (madeS x) = 0 ∧ (∀ a ∈ madeS x, AtWf a) := by
  have hc : x = 0 ∨ x = 1 ∨ x = 2 ∨ x = 3 ∨ x = 4 ∨ x = 5 := by omega
  have key : ∀ L : List At, (L.all fun a => decide (AtWf a)) = true → ∀ a ∈ L, AtWf a := fun L hL a ha => of_decide_eq_true (List.all_eq_true.1 hL a ha)
  rcases hc with rfl | rfl | rfl | rfl | rfl | rfl
  all_goals exact ⟨by kernel_rfl, key _ (by kernel_rfl)⟩
end Go.Proofs.YtjmipikahaoblaaGreatDoor.Sc
namespace Go.Proofs.YtjmipikahaoblaaGreatDoor.Syn
open Go.RowKit Go.Lib Go.Proofs.YtjmipikahaoblaaGreatDoor.Bas Go.Proofs.YtjmipikahaoblaaGreatDoor.Cal Go.Proofs.YtjmipikahaoblaaGreatDoor.Lx Go.Proofs.YtjmipikahaoblaaGreatDoor.Sc Go.Proofs.YtjmipikahaoblaaGreatDoor.Dk
set_option linter.unusedVariables false

/-- A node without arguments that is made. -/
structure AtomB (d : Nd) : Prop where
  ok : nodeB d 0 = true
  op : d.op = 3 ∨ d.op = 4 ∨ d.op = 5
  nm : d.nm.length ≤ 7
  ws : d.ws.length ≤ 4
  wl : ∀ x ∈ d.ws, x.length ≤ 5
/-- What an attribute is like. -/
structure AOk (a : At) : Prop where
  nm : nameB a.nm = true
  ln : a.nm.length ≤ 7
  kd : a.k = 1 ∨ a.k = 2 ∨ a.k = 3
  wd : a.k = 1 → 1 ≤ a.ws.length ∧ a.ws.length ≤ 4 ∧ namesB a.ws = true ∧ distB a.ws = true ∧ ∀ x ∈ a.ws, x.length ≤ 5
  no : a.k = 2 → -1000000000 ≤ a.lo ∧ a.lo ≤ a.hi ∧ a.hi ≤ 1000000000
def aokB (a : At) : Bool := nameB a.nm && decide (a.nm.length ≤ 7) && decide (a.k = 1 ∨ a.k = 2 ∨ a.k = 3) && (decide (a.k ≠ 1) || (decide (1 ≤ a.ws.length) && decide (a.ws.length ≤ 4) && namesB a.ws && distB a.ws && a.ws.all fun x => decide (x.length ≤ 5))) && (decide (a.k ≠ 2) || decide (-1000000000 ≤ a.lo ∧ a.lo ≤ a.hi ∧ a.hi ≤ 1000000000))
theorem aok_of {a : At} (h : aokB a = true) : AOk a := by
  unfold aokB at h
  simp only [Bool.and_eq_true, Bool.or_eq_true, decide_eq_true_eq, List.all_eq_true] at h
  obtain ⟨⟨⟨⟨h1, h2⟩, h3⟩, h4⟩, h5⟩ := h
  refine ⟨h1, h2, h3, fun e => ?_, fun e => ?_⟩
  · rcases h4 with h4 | h4
    · exact absurd e h4
    · exact ⟨h4.1.1.1.1, h4.1.1.1.2, h4.1.1.2, h4.1.2, h4.2⟩
  · rcases h5 with h5 | h5
    · exact absurd e h5
    · exact h5
theorem made_aok (x : Int) (h : 0 ≤ x ∧ x ≤ 5) : (1 ≤ (madeS x).length ∧ (madeS x).length ≤ 4) ∧ (∀ a ∈ madeS x, AOk a) := by
  have hc : x = 0 ∨ x = 1 ∨ x = 2 ∨ x = 3 ∨ x = 4 ∨ x = 5 := by omega
  have key : ∀ L : List At, (L.all aokB) = true → ∀ a ∈ L, AOk a := fun L hL a ha => aok_of (List.all_eq_true.1 hL a ha)
  rcases hc with rfl | rfl | rfl | rfl | rfl | rfl
  all_goals exact ⟨by decide, key _ (by kernel_rfl)⟩
theorem atom_name {s : List UInt8} (h : nameB s = true) (hl : s.length ≤ 7) : AtomB ⟨3, s, [], 0, 0⟩ :=
  ⟨by unfold nodeB; simp [h], .inl rfl, hl, by simp, fun x hx => by cases hx⟩
theorem atom_in {s : List UInt8} {l : List (List UInt8)} (h : nameB s = true) (hl : s.length ≤ 7) (h1 : 1 ≤ l.length) (h2 : l.length ≤ 4) (hn : namesB l = true) (hd : distB l = true) (hw : ∀ x ∈ l, x.length ≤ 5) : AtomB ⟨4, s, l, 0, 0⟩ :=
  ⟨by unfold nodeB; simp [h, hn, hd]; omega, .inr (.inl rfl), hl, h2, hw⟩
theorem atom_between {s : List UInt8} {a b : Int} (h : nameB s = true) (hl : s.length ≤ 7) (h1 : -1000000000 ≤ a) (h2 : a ≤ b) (h3 : b ≤ 1000000000) : AtomB ⟨5, s, [], a, b⟩ :=
  ⟨by unfold nodeB farB; simp [h]; omega, .inr (.inr rfl), hl, by simp, fun x hx => by cases hx⟩
/-- k words from the f-th on, in turn. -/
def cyc (ws : List (List UInt8)) (f : Nat) (k : Nat) : List (List UInt8) := (List.range k).map fun i => ws.getD ((f + i) % ws.length) []
theorem cyc_succ (ws : List (List UInt8)) (f k : Nat) : cyc ws f (k + 1) = cyc ws f k ++ [ws.getD ((f + k) % ws.length) []] := by unfold cyc; rw [List.range_succ, List.map_append]; rfl
theorem cyc_len (ws : List (List UInt8)) (f k : Nat) : (cyc ws f k).length = k := by unfold cyc; simp
theorem cyc_at (ws : List (List UInt8)) (f k i : Nat) (h : i < k) : (cyc ws f k).getD i [] = ws.getD ((f + i) % ws.length) [] := by unfold cyc; simp [List.getD_eq_getElem?_getD, h]
theorem cyc_ok (ws : List (List UInt8)) (f k : Nat) (h1 : 1 ≤ ws.length) (hk : k ≤ ws.length) (hn : namesB ws = true) (hd : distB ws = true) (hl : ∀ x ∈ ws, x.length ≤ 5) : namesB (cyc ws f k) = true ∧ distB (cyc ws f k) = true ∧ ∀ x ∈ cyc ws f k, x.length ≤ 5 := by
  have hn' := of_decide_eq_true hn
  have hd' := of_decide_eq_true hd
  refine ⟨decide_eq_true ?_, decide_eq_true ?_, ?_⟩
  · intro i hi
    rw [cyc_len] at hi
    rw [cyc_at _ _ _ _ hi]
    exact hn' _ (Nat.mod_lt _ (by omega))
  · intro i hi j hj
    rw [cyc_len] at hi
    rw [cyc_at _ _ _ _ hi, cyc_at _ _ _ _ (by omega)]
    have m1 : (f + i) % ws.length < ws.length := Nat.mod_lt _ (by omega)
    have m2 : (f + j) % ws.length < ws.length := Nat.mod_lt _ (by omega)
    have hne : (f + i) % ws.length ≠ (f + j) % ws.length := by
      intro e
      have a1 := Nat.div_add_mod (f + i) ws.length
      have a2 := Nat.div_add_mod (f + j) ws.length
      rw [e] at a1
      generalize (f + i) / ws.length = p at *
      generalize (f + j) / ws.length = q at *
      have : p = q := by
        rcases Nat.lt_trichotomy p q with h | h | h
        · have := Nat.mul_le_mul_left ws.length (show p + 1 ≤ q from h); rw [Nat.mul_add] at this; omega
        · exact h
        · have := Nat.mul_le_mul_left ws.length (show q + 1 ≤ p from h); rw [Nat.mul_add] at this; omega
      subst this
      omega
    rcases Nat.lt_or_gt_of_ne hne with h | h
    · exact fun e => hd' _ m2 _ h e.symm
    · exact hd' _ m1 _ h
  · intro x hx
    obtain ⟨i, _, rfl⟩ := List.mem_map.1 hx
    have hm : (f + i) % ws.length < ws.length := Nat.mod_lt _ (by omega)
    rw [List.getD_eq_getElem?_getD, List.getElem?_eq_getElem hm]
    exact hl _ (List.getElem_mem _)
/-- The deck's Range. -/
def RangeOut (lo : Int) (n B d : Nat) (v : Value) (l : List Int) (w : World) (e : Ending) (w' : World) : Prop := ∃ x : Nat, x < n ∧ e = .returned (.int .i64 (lo + x)) ∧ Deck B w' d v l ∧ Kept d w w'
set_option maxHeartbeats 2000000 in
theorem range_any (B d : Nat) (v : Value) (l : List Int) (w : World) (lo hi : Int) (n : Nat) (hn : hi - lo + 1 = n) (h0 : 0 < n) (h1 : -1000 ≤ lo) (h2 : hi ≤ 1000) (h : Deck B w d v l) :
    Calls Tryz.prog 37 #[.pointer (some ⟨d, 0, none⟩), .int .i64 lo, .int .i64 hi] w (RangeOut lo n B d v l w) := by
  have c := Lib.hid (Dk.next_any B d v l w n h0 (by omega) h)
  have e1 : IntKind.i64.wrap (hi - lo) = hi - lo := IntWalk.i64_in _ (by omega)
  have e2 : IntKind.i64.wrap (hi - lo + 1) = n := by rw [hn]; exact IntWalk.i64_in _ (by omega)
  have e3 : ∀ x : Nat, x < n → IntKind.i64.wrap (lo + x) = lo + x := fun x hx => IntWalk.i64_in _ (by omega)
  have e3' := Lib.hid e3
  clear h e3 hn
  go_enter Tryz.func37, Tryz.ntmps37
  go_wp2_with fail
  refine c.out.mono ?_; rintro e w1 ⟨x, hx, rfl, hD, hK⟩
  have e4 := e3'.out x hx
  have hf := Lib.hid (show RangeOut lo n B d v l w (.returned (.int .i64 (lo + x))) w1 from ⟨x, hx, rfl, hD, hK⟩)
  clear hD hK c
  go_wp2_with fail
  go_ret
  exact hf.out
end Go.Proofs.YtjmipikahaoblaaGreatDoor.Syn
namespace Go.Proofs.YtjmipikahaoblaaGreatDoor.Syn
open Go.RowKit Go.Lib Go.Proofs.YtjmipikahaoblaaGreatDoor.Bas Go.Proofs.YtjmipikahaoblaaGreatDoor.Cal Go.Proofs.YtjmipikahaoblaaGreatDoor.Lx Go.Proofs.YtjmipikahaoblaaGreatDoor.Sc Go.Proofs.YtjmipikahaoblaaGreatDoor.Dk
set_option linter.unusedVariables false

theorem strsIn_frame {B : Nat} {w w' : World} {v : Value} {l : List (List UInt8)} (h : StrsIn B w v l) (hf : ∀ b, B ≤ b → b < w.heap.size → w'.heap[b]? = w.heap[b]?) : StrsIn B w' v l := by
  obtain ⟨p, c, hv, hcc, hp⟩ := h
  refine ⟨p, c, hv, hcc, fun h0 => ?_⟩
  obtain ⟨b, off, e, hB, hh⟩ := hp h0
  have hlt : b < w.heap.size := World.block_lt_of_cell? _ _ (hh 0 h0)
  exact ⟨b, off, e, hB, fun j hj => cell_same (hh j hj) fun _ => hf b hB hlt⟩
theorem attsIn_frame {B : Nat} {w w' : World} {v : Value} {L : List At} (h : AttsIn B w v L) (hf : ∀ b, B ≤ b → b < w.heap.size → w'.heap[b]? = w.heap[b]?) : AttsIn B w' v L := by
  obtain ⟨p, c, hv, hcc, hp⟩ := h
  refine ⟨p, c, hv, hcc, fun h0 => ?_⟩
  obtain ⟨b, off, e, hB, hh⟩ := hp h0
  have hlt : b < w.heap.size := World.block_lt_of_cell? _ _ (hh 0 h0).1
  refine ⟨b, off, e, hB, fun j hj => ?_⟩
  obtain ⟨h1, h2, ⟨u, h3, h4⟩, h5, h6⟩ := hh j hj
  have e1 := hf b hB hlt
  exact ⟨cell_same h1 fun _ => e1, cell_same h2 fun _ => e1, ⟨u, cell_same h3 fun _ => e1, strsIn_frame h4 hf⟩, cell_same h5 fun _ => e1, cell_same h6 fun _ => e1⟩
/-- The deck, the schema and the names of one call; w0 is where it began. -/
structure St (B d : Nat) (v : Value) (l : List Int) (sv : Value) (L : List At) (nv : Value) (ns : List (List UInt8)) (w0 W : World) : Prop where
  dk : Deck B W d v l
  kp : Kept d w0 W
  att0 : AttsIn (d + 1) w0 sv L
  nms0 : StrsIn (d + 1) w0 nv ns
theorem St.att {B d : Nat} {v : Value} {l : List Int} {sv : Value} {L : List At} {nv : Value} {ns : List (List UInt8)} {w0 W : World} (h : St B d v l sv L nv ns w0 W) : AttsIn (d + 1) W sv L := attsIn_frame h.att0 fun b hb hl => h.kp.block b hl (by omega)
theorem St.nms {B d : Nat} {v : Value} {l : List Int} {sv : Value} {L : List At} {nv : Value} {ns : List (List UInt8)} {w0 W : World} (h : St B d v l sv L nv ns w0 W) : StrsIn (d + 1) W nv ns := strsIn_frame h.nms0 fun b hb hl => h.kp.block b hl (by omega)
theorem St.kept {B d : Nat} {v : Value} {l : List Int} {sv : Value} {L : List At} {nv : Value} {ns : List (List UInt8)} {w0 W W' : World} (h : St B d v l sv L nv ns w0 W) (hD : Deck B W' d v l) (hK : Kept d W W') : St B d v l sv L nv ns w0 W' :=
  ⟨hD, h.kp.trans hK, h.att0, h.nms0⟩
theorem St.below {B d : Nat} {v : Value} {l : List Int} {sv : Value} {L : List At} {nv : Value} {ns : List (List UInt8)} {w0 W W' : World} (h : St B d v l sv L nv ns w0 W) (hb : Below W.heap.size W W') : St B d v l sv L nv ns w0 W' :=
  h.kept (h.dk.below hb) (Kept.of_below hb)
theorem St.drewN {B d : Nat} {v : Value} {l : List Int} {sv : Value} {L : List At} {nv : Value} {ns : List (List UInt8)} {w0 W : World} (h : St B d v l sv L nv ns w0 W) (n : Nat) : St B d v l sv L nv ns w0 (W.drewN n) := h.below (below_drewN (Below.refl _ _) n)
theorem deck_sc {B d b : Nat} {v : Value} {l : List Int} {w : World} (o : Nat) (y : Value) (h : Deck B w d v l) (hb : d < b) : Deck B (w.setCell ⟨b, o, none⟩ y) d v l := by
  obtain ⟨k, hk, hc⟩ := h.c1
  have e : (w.setCell ⟨b, o, none⟩ y).heap[d]? = w.heap[d]? := Below.heap_setCell _ _ _ _ (show d ≠ b from Nat.ne_of_lt hb)
  exact ⟨h.ge, by simpa using h.lt, cell_same h.c0 fun _ => e, ⟨k, hk, cell_same hc fun _ => e⟩, by rw [World.frozen?_setCell]; exact h.fz, ints_set h.ints h.blk (Nat.le_trans h.ge (Nat.le_of_lt hb)) _, h.blk, h.len, h.wf⟩
/-- A store into a block that is the call's own. -/
theorem St.setCell {B d : Nat} {v : Value} {l : List Int} {sv : Value} {L : List At} {nv : Value} {ns : List (List UInt8)} {w0 W : World} (h : St B d v l sv L nv ns w0 W) {b : Nat} (o : Nat) (x : Value) (hb : w0.heap.size ≤ b) (hdb : d < b) : St B d v l sv L nv ns w0 (W.setCell ⟨b, o, none⟩ x) :=
  ⟨deck_sc o x h.dk hdb, kept_sc h.kp hb o x, h.att0, h.nms0⟩
/-- The five cells of an attribute that may be stored to. -/
structure AF (W : World) (b : Nat) (a : At) (u : Value) : Prop where
  at_ : AAt W b a u
  f0 : W.frozen? ⟨b, 0, none⟩ = false
  f1 : W.frozen? ⟨b, 1, none⟩ = false
  f2 : W.frozen? ⟨b, 2, none⟩ = false
  f3 : W.frozen? ⟨b, 3, none⟩ = false
  f4 : W.frozen? ⟨b, 4, none⟩ = false
def a0 : At := ⟨[], 0, [], 0, 0⟩
abbrev zat : Obj := .cells #[.string { data := #[] }, .int .i64 0, .slice none 0 0, .int .i64 0, .int .i64 0] 84
theorem AF.new (w : World) : AF (w.alloc zat) w.heap.size a0 (.slice none 0 0) := ⟨AAt.new w a0 (.slice none 0 0) 84, by simp, by simp, by simp, by simp, by simp⟩
theorem AF.kept {d : Nat} {w w' : World} {b : Nat} {a : At} {u : Value} (h : AF w b a u) (k : Kept d w w') (hb : b ≠ d) : AF w' b a u := by
  obtain ⟨⟨h0, h1, h2, h3, h4, h5⟩, f0, f1, f2, f3, f4⟩ := h
  have e := k.block b h0 hb
  exact ⟨⟨Nat.lt_of_lt_of_le h0 k.size, cell_same h1 fun _ => e, cell_same h2 fun _ => e, cell_same h3 fun _ => e, cell_same h4 fun _ => e, cell_same h5 fun _ => e⟩,
    by rw [World.frozen?_of_block (w := w) (a := ⟨b, 0, none⟩) e]; exact f0, by rw [World.frozen?_of_block (w := w) (a := ⟨b, 1, none⟩) e]; exact f1, by rw [World.frozen?_of_block (w := w) (a := ⟨b, 2, none⟩) e]; exact f2, by rw [World.frozen?_of_block (w := w) (a := ⟨b, 3, none⟩) e]; exact f3, by rw [World.frozen?_of_block (w := w) (a := ⟨b, 4, none⟩) e]; exact f4⟩
def setAt (w : World) (b : Nat) (a : At) (u : Value) : World := ((((w.setCell ⟨b, 0, none⟩ (.string (tx a.nm))).setCell ⟨b, 1, none⟩ (.int .i64 a.k)).setCell ⟨b, 2, none⟩ u).setCell ⟨b, 3, none⟩ (.int .i64 a.lo)).setCell ⟨b, 4, none⟩ (.int .i64 a.hi)
theorem AF.set {w : World} {b : Nat} {a : At} {u : Value} (h : AF w b a u) (a' : At) (u' : Value) : AAt (setAt w b a' u') b a' u' := by
  obtain ⟨⟨h0, h1, h2, h3, h4, h5⟩, _⟩ := h
  unfold setAt
  refine ⟨by simpa using h0, ?_, ?_, ?_, ?_, ?_⟩
  · exact sc_other _ _ _ _ _ _ (by decide) (sc_other _ _ _ _ _ _ (by decide) (sc_other _ _ _ _ _ _ (by decide) (sc_other _ _ _ _ _ _ (by decide) (sc_same _ _ _ _ _ h1))))
  · exact sc_other _ _ _ _ _ _ (by decide) (sc_other _ _ _ _ _ _ (by decide) (sc_other _ _ _ _ _ _ (by decide) (sc_same _ _ _ _ _ (sc_other _ _ _ _ _ _ (by decide) h2))))
  · exact sc_other _ _ _ _ _ _ (by decide) (sc_other _ _ _ _ _ _ (by decide) (sc_same _ _ _ _ _ (sc_other _ _ _ _ _ _ (by decide) (sc_other _ _ _ _ _ _ (by decide) h3))))
  · exact sc_other _ _ _ _ _ _ (by decide) (sc_same _ _ _ _ _ (sc_other _ _ _ _ _ _ (by decide) (sc_other _ _ _ _ _ _ (by decide) (sc_other _ _ _ _ _ _ (by decide) h4))))
  · exact sc_same _ _ _ _ _ (sc_other _ _ _ _ _ _ (by decide) (sc_other _ _ _ _ _ _ (by decide) (sc_other _ _ _ _ _ _ (by decide) (sc_other _ _ _ _ _ _ (by decide) h5))))
theorem setAt_block (w : World) (b : Nat) (a : At) (u : Value) (k : Nat) (h : k ≠ b) : (setAt w b a u).heap[k]? = w.heap[k]? := by
  unfold setAt
  rw [Below.heap_setCell _ _ _ _ h, Below.heap_setCell _ _ _ _ h, Below.heap_setCell _ _ _ _ h, Below.heap_setCell _ _ _ _ h, Below.heap_setCell _ _ _ _ h]
theorem setAt_size (w : World) (b : Nat) (a : At) (u : Value) : (setAt w b a u).heap.size = w.heap.size := by unfold setAt; simp
theorem St.setAt {B d : Nat} {v : Value} {l : List Int} {sv : Value} {L : List At} {nv : Value} {ns : List (List UInt8)} {w0 W : World} (h : St B d v l sv L nv ns w0 W) {b : Nat} (a : At) (u : Value) (hb : w0.heap.size ≤ b) (hdb : d < b) : St B d v l sv L nv ns w0 (setAt W b a u) :=
  ((((h.setCell 0 _ hb hdb).setCell 1 _ hb hdb).setCell 2 _ hb hdb).setCell 3 _ hb hdb).setCell 4 _ hb hdb
theorem StrsIn.strs {B : Nat} {w : World} {v : Value} {l : List (List UInt8)} (h : StrsIn B w v l) : StrsAt w v l := h.at
/-- What the maker returns. -/
def AtomOut (B d : Nat) (v : Value) (l : List Int) (w : World) (e : Ending) (w' : World) : Prop :=
  ∃ (x : Nd) (u : Value), e = .returned (exV x u (.slice none 0 0)) ∧ AtomB x ∧ StrsS (fun b => w.heap.size ≤ b) w' u x.ws ∧ Deck B w' d v l ∧ Kept d w w'
theorem oat_kept {d : Nat} {w w' : World} {b : Nat} {u : Value} (h : OAt w b u) (k : Kept d w w') (hb : b ≠ d) : OAt w' b u := by
  obtain ⟨h0, h1⟩ := h
  exact ⟨Nat.lt_of_lt_of_le h0 k.size, cell_same h1 fun _ => k.block b h0 hb⟩
theorem aat_kept {d : Nat} {w w' : World} {b : Nat} {a : At} {u : Value} (h : AAt w b a u) (k : Kept d w w') (hb : b ≠ d) : AAt w' b a u := by
  obtain ⟨h0, h1, h2, h3, h4, h5⟩ := h
  have e := k.block b h0 hb
  exact ⟨Nat.lt_of_lt_of_le h0 k.size, cell_same h1 fun _ => e, cell_same h2 fun _ => e, cell_same h3 fun _ => e, cell_same h4 fun _ => e, cell_same h5 fun _ => e⟩
theorem deck_setEx {B d b : Nat} {v : Value} {l : List Int} {w : World} (h : Deck B w d v l) (hb : d < b) (x : Nd) (u a : Value) : Deck B (setEx w b x u a) d v l := by
  have hs : ∀ {w : World} (o : Nat) (y : Value), Deck B w d v l → Deck B (w.setCell ⟨b, o, none⟩ y) d v l := fun {w} o y h => by
    obtain ⟨k, hk, hc⟩ := h.c1
    have e : (w.setCell ⟨b, o, none⟩ y).heap[d]? = w.heap[d]? := Below.heap_setCell _ _ _ _ (show d ≠ b from Nat.ne_of_lt hb)
    refine ⟨h.ge, by simpa using h.lt, cell_same h.c0 fun _ => e, ⟨k, hk, cell_same hc fun _ => e⟩, by rw [World.frozen?_setCell]; exact h.fz, ints_set h.ints h.blk (Nat.le_trans h.ge (Nat.le_of_lt hb)) _, h.blk, h.len, h.wf⟩
  unfold setEx
  exact hs _ _ (hs _ _ (hs _ _ (hs _ _ (hs _ _ (hs _ _ h)))))
/-- The end of a call that stores a node and returns it. -/
theorem atom_fin {B d b : Nat} {v : Value} {l : List Int} {w W : World} {x : Nd} {u : Value} (hA : AtomB x) (hb : w.heap.size ≤ b) (hdb : d < b) (hD : Deck B W d v l) (hK : Kept d w W) (hU : StrsS (fun g => w.heap.size ≤ g ∧ g ≠ b) W u x.ws) :
    AtomOut B d v l w (.returned (exV x u (.slice none 0 0))) (setEx W b x u (.slice none 0 0)) :=
  ⟨x, u, rfl, hA, hU.frame fun g hs hl => ⟨hs.1, setEx_block _ _ _ _ _ _ hs.2⟩, deck_setEx hD hdb _ _ _, kept_setEx hK hb _ _ _⟩

theorem at_mem' {L : List At} {y : Nat} (hy : y < L.length) : at' L y ∈ L := by
  unfold at'
  rw [List.getD_eq_getElem?_getD, List.getElem?_eq_getElem hy]
  exact List.getElem_mem _
/-- The attribute y of a schema that lies there. -/
theorem atts_get {B : Nat} {w : World} {v : Value} {L : List At} (h : AttsIn B w v L) {y : Nat} (hy : y < L.length) : ∃ b off c u, v = .slice (some ⟨b, off, none⟩) L.length c ∧ B ≤ b ∧ w.cell? ⟨b, off + y * 5, none⟩ = some (.string (tx (at' L y).nm)) ∧ w.cell? ⟨b, off + y * 5 + 1, none⟩ = some (.int .i64 (at' L y).k) ∧ w.cell? ⟨b, off + y * 5 + 2, none⟩ = some u ∧ w.cell? ⟨b, off + y * 5 + 3, none⟩ = some (.int .i64 (at' L y).lo) ∧ w.cell? ⟨b, off + y * 5 + 4, none⟩ = some (.int .i64 (at' L y).hi) ∧ StrsIn B w u (at' L y).ws := by
  obtain ⟨p, c, rfl, _, hp⟩ := h
  obtain ⟨b, off, rfl, hb, hh⟩ := hp (by omega)
  obtain ⟨h1, h2, ⟨u, h3, h4⟩, h5, h6⟩ := hh y hy
  exact ⟨b, off, c, u, rfl, hb, h1, h2, h3, h5, h6, h4⟩
theorem strs_get {B : Nat} {w : World} {v : Value} {l : List (List UInt8)} (h : StrsIn B w v l) {y : Nat} (hy : y < l.length) : ∃ b off c, v = .slice (some ⟨b, off, none⟩) l.length c ∧ B ≤ b ∧ w.cell? ⟨b, off + y, none⟩ = some (.string (tx (l.getD y []))) := by
  obtain ⟨p, c, rfl, _, hp⟩ := h
  obtain ⟨b, off, rfl, hb, hh⟩ := hp (by omega)
  exact ⟨b, off, c, rfl, hb, hh y hy⟩
theorem St.grown {B d : Nat} {v : Value} {l : List Int} {sv : Value} {L : List At} {nv : Value} {ns : List (List UInt8)} {w0 W W' : World} {row : Option Nat} (h : St B d v l sv L nv ns w0 W) (hg : W.grownBy W' row) (hr : ∀ g, row = some g → w0.heap.size ≤ g ∧ d < g) : St B d v l sv L nv ns w0 W' :=
  ⟨h.dk.grown hg fun g e => (hr g e).2, h.kp.grown hg fun g e => (hr g e).1, h.att0, h.nms0⟩
theorem XF.set2 {w : World} {b : Nat} {d : Nd} {u a : Value} (h : XF w b d u a) (u' : Value) : XF (w.setCell ⟨b, 2, none⟩ u') b d u' a := by
  obtain ⟨⟨h0, h1, h2, h3, h4, h5, h6⟩, f0, f1, f2, f3, f4, f5⟩ := h
  refine ⟨⟨by simpa using h0, ?_, ?_, ?_, ?_, ?_, ?_⟩, by rw [World.frozen?_setCell]; exact f0, by rw [World.frozen?_setCell]; exact f1, by rw [World.frozen?_setCell]; exact f2, by rw [World.frozen?_setCell]; exact f3, by rw [World.frozen?_setCell]; exact f4, by rw [World.frozen?_setCell]; exact f5⟩
  · exact sc_other _ _ _ _ _ _ (by decide) h1
  · exact sc_other _ _ _ _ _ _ (by decide) h2
  · exact sc_same _ _ _ _ _ h3
  · exact sc_other _ _ _ _ _ _ (by decide) h4
  · exact sc_other _ _ _ _ _ _ (by decide) h5
  · exact sc_other _ _ _ _ _ _ (by decide) h6
theorem XF.sc {w : World} {b : Nat} {d : Nd} {u a : Value} (h : XF w b d u a) {g o : Nat} (x : Value) (hg : b ≠ g) : XF (w.setCell ⟨g, o, none⟩ x) b d u a := h.block (Below.heap_setCell _ _ _ _ hg) (by simp)
theorem aat_block {w w' : World} {b : Nat} {a : At} {u : Value} (h : AAt w b a u) (e : w'.heap[b]? = w.heap[b]?) (hs : w.heap.size ≤ w'.heap.size) : AAt w' b a u := by
  obtain ⟨h0, h1, h2, h3, h4, h5⟩ := h
  exact ⟨Nat.lt_of_lt_of_le h0 hs, cell_same h1 fun _ => e, cell_same h2 fun _ => e, cell_same h3 fun _ => e, cell_same h4 fun _ => e, cell_same h5 fun _ => e⟩
theorem srow_sc {B g o : Nat} {w : World} {v : Value} {l : List (List UInt8)} (h : SRow B w v l) (x : Value) (hg : g < B) : SRow B (w.setCell ⟨g, o, none⟩ x) v l :=
  own_block h fun k hk => Below.heap_setCell _ _ _ _ (show k ≠ g from by have := (h.block k hk).1; omega)
theorem tmod_nat (a n : Nat) : ((a : Int)).tmod (n : Int) = ((a % n : Nat) : Int) := by
  rw [Int.tmod_eq_emod_of_nonneg (by omega)]; rfl
/-- Cells that an append has left. -/
theorem grown4 {w w' : World} {row : Option Nat} {b3 b2 bw o3 o2 ow : Nat} {v1 v2 v3 : Value} (hg : w.grownBy w' row) (h3 : b3 < w.heap.size) (h2 : b2 < w.heap.size) (hw : bw < w.heap.size) (n3 : some b3 ≠ row) (n2 : some b2 ≠ row) (nw : bw < w.heap.size → some bw ≠ row)
    (c1 : w.cell? ⟨b3, o3, none⟩ = some v1) (c2 : w.frozen? ⟨b3, o3, none⟩ = false) (c3 : w.cell? ⟨b2, o2, none⟩ = some v2) (c4 : w.cell? ⟨bw, ow, none⟩ = some v3) :
    w'.cell? ⟨b3, o3, none⟩ = some v1 ∧ w'.frozen? ⟨b3, o3, none⟩ = false ∧ w'.cell? ⟨b2, o2, none⟩ = some v2 ∧ w'.cell? ⟨bw, ow, none⟩ = some v3 :=
  ⟨cell_same c1 fun _ => hg.block b3 h3 n3, by rw [World.frozen?_of_block (w := w) (a := ⟨b3, o3, none⟩) (hg.block b3 h3 n3)]; exact c2, cell_same c3 fun _ => hg.block b2 h2 n2, cell_same c4 fun _ => hg.block bw hw (nw hw)⟩
/-- What a round of the words has left. -/
def Round (B d : Nat) (v : Value) (l : List Int) (sv : Value) (L : List At) (nv : Value) (ns : List (List UInt8)) (w : World) (b0 b2 b3 : Nat) (x : Nd) (a : At) (u : Value) (c : List (List UInt8)) (wr : World) : Prop :=
  (∃ uw, XF wr b3 x uw (.slice none 0 0) ∧ SRow (b3 + 1) wr uw c) ∧ St B d v l sv L nv ns w wr ∧ XF wr (b0 + 1) n0 (.slice none 0 0) (.slice none 0 0) ∧ AAt wr b2 a u
theorem loop_step {B d : Nat} {v : Value} {l : List Int} {sv : Value} {L : List At} {nv : Value} {ns : List (List UInt8)} {w wr W1 wA : World} {b0 b2 b3 : Nat} {x : Nd} {a : At} {u uw v' : Value} {c : List (List UInt8)}
    (hE : XF wr b3 x uw (.slice none 0 0)) (hS : St B d v l sv L nv ns w wr) (hX : XF wr (b0 + 1) n0 (.slice none 0 0) (.slice none 0 0)) (hA : AAt wr b2 a u) (hb : Below wr.heap.size wr W1) (hg : W1.grownBy wA uw.ownBlock)
    (hblk : ∀ g, uw.ownBlock = some g → b3 + 1 ≤ g ∧ g < wr.heap.size) (hR : SRow (b3 + 1) wA v' c) (hw : w.heap.size ≤ b3) (hd : d < b3) (h0 : b0 + 1 < b3) (h2 : b2 < b3) :
    Round B d v l sv L nv ns w b0 b2 b3 x a u c (wA.setCell ⟨b3, 2, none⟩ v') := by
  have key : ∀ k, k < wr.heap.size → k ≤ b3 → wA.heap[k]? = wr.heap[k]? := fun k hk h3 =>
    (hg.block k (Nat.lt_of_lt_of_le hk hb.size) (fun e => by have := (hblk k e.symm).1; omega)).trans (hb.block k hk)
  have hsz : wr.heap.size ≤ wA.heap.size := Nat.le_trans hb.size hg.size
  refine ⟨⟨v', ((hE.block (key b3 hE.at_.1 (Nat.le_refl _)) hsz).set2 v'), srow_sc hR _ (Nat.lt_succ_self _)⟩, ?_, ?_, ?_⟩
  · exact ((hS.below hb).grown hg fun g e => by have := (hblk g e).1; omega).setCell 2 v' hw hd
  · exact (hX.block (key _ hX.at_.1 (by omega)) hsz).sc v' (by omega)
  · exact aat_block (aat_block hA (key _ hA.1 (by omega)) hsz) (Below.heap_setCell _ _ _ _ (show b2 ≠ b3 by omega)) (by simp)
/-- What a call of the maker holds behind its attribute. -/
structure Hold (B d : Nat) (v : Value) (l : List Int) (sv : Value) (L : List At) (nv : Value) (ns : List (List UInt8)) (w : World) (b0 b2 : Nat) (a : At) (u : Value) (wr : World) : Prop where
  st : St B d v l sv L nv ns w wr
  xf : XF wr (b0 + 1) n0 (.slice none 0 0) (.slice none 0 0)
  at_ : AAt wr b2 a u
theorem Hold.kept {B d : Nat} {v : Value} {l : List Int} {sv : Value} {L : List At} {nv : Value} {ns : List (List UInt8)} {w : World} {b0 b2 : Nat} {a : At} {u : Value} {wr w' : World} (h : Hold B d v l sv L nv ns w b0 b2 a u wr) (hD : Deck B w' d v l) (hK : Kept d wr w') (h1 : b0 + 1 ≠ d) (h2 : b2 ≠ d) : Hold B d v l sv L nv ns w b0 b2 a u w' :=
  ⟨h.st.kept hD hK, h.xf.kept hK h1, aat_kept h.at_ hK h2⟩
theorem kept_drew {d : Nat} {w w' : World} (h : Kept d (w.drewN 1) w') : Kept d w w' := ((Kept.refl d w).drewN 1).trans h
end Go.Proofs.YtjmipikahaoblaaGreatDoor.Syn
namespace Go.Proofs.YtjmipikahaoblaaGreatDoor.Syn
open Go.RowKit Go.Lib Go.Proofs.YtjmipikahaoblaaGreatDoor.Bas Go.Proofs.YtjmipikahaoblaaGreatDoor.Cal Go.Proofs.YtjmipikahaoblaaGreatDoor.Lx Go.Proofs.YtjmipikahaoblaaGreatDoor.Sc Go.Proofs.YtjmipikahaoblaaGreatDoor.Dk
set_option linter.unusedVariables false

set_option maxRecDepth 8000 in
set_option maxHeartbeats 16000000 in
theorem atom_any (B d : Nat) (v : Value) (l : List Int) (w : World) (L : List At) (sv nv : Value) (ns : List (List UInt8)) (hD : Deck B w d v l) (hS : AttsIn (d + 1) w sv L) (hN : StrsIn (d + 1) w nv ns)
    (hL : 1 ≤ L.length ∧ L.length ≤ 4) (hA : ∀ a ∈ L, AOk a) (h0 : 0 < ns.length) (hn : ns.length ≤ 1000) (hnok : ∀ x ∈ ns, nameB x = true ∧ x.length ≤ 7) :
    Calls Tryz.prog 56 #[.pointer (some ⟨d, 0, none⟩), .agg #[sv], nv] w (AtomOut B d v l w) := by
  have hdl := hD.lt
  have al := alloc_at w (.cells #[sv] 57)
  have al2 := alloc_at (w.alloc (.cells #[sv] 57)) zx
  have S0 := Lib.hid ((St.mk hD (Kept.refl d w) hS hN : St B d v l sv L nv ns w w).below (trans_b al al2))
  have O0 := Lib.hid ((OAt.new w sv 57).keep al2)
  have X0 := Lib.hid (XF.new (w.alloc (.cells #[sv] 57)) n0 (.slice none 0 0) (.slice none 0 0))
  rw [size_alloc1] at X0
  have hfin := Lib.hid (fun (W : World) (b : Nat) (x : Nd) (u : Value) (hA : AtomB x) (hb : w.heap.size ≤ b) (hdb : d < b) (hD : Deck B W d v l) (hK : Kept d w W) (hU : StrsS (fun g => w.heap.size ≤ g ∧ g ≠ b) W u x.ws) => atom_fin hA hb hdb hD hK hU)
  have hAo := Lib.hid (fun y (hy : y < L.length) => hA _ (at_mem' hy))
  have hno := Lib.hid (fun y (hy : y < ns.length) => hnok (ns.getD y []) (by rw [List.getD_eq_getElem?_getD, List.getElem?_eq_getElem hy]; exact List.getElem_mem _))
  obtain ⟨b0, hb0⟩ : ∃ b, w.heap.size = b := ⟨_, rfl⟩
  have hbd : b0 ≠ d := by omega
  have hbd1 : b0 + 1 ≠ d := by omega
  have hdb : d < b0 := by omega
  rw [hb0] at O0 X0
  have hb0' := Lib.hid hb0
  clear hb0 hD hS hN hA hnok al al2 hdl
  obtain ⟨hL1, hL2⟩ := hL
  obtain ⟨pn, cn, rfl, hq1, hq2⟩ := S0.out.nms
  obtain ⟨ps, cs, rfl, hq3, hq4⟩ := S0.out.att
  clear hq1 hq2 hq3 hq4
  obtain ⟨nn, hnn⟩ : ∃ n, ns.length = n := ⟨_, rfl⟩
  obtain ⟨ml, hml⟩ : ∃ n, L.length = n := ⟨_, rfl⟩
  have hnn' := Lib.hid hnn
  have hml' := Lib.hid hml
  rw [hnn] at S0 hno h0 hn ⊢
  rw [hml] at S0 O0 X0 hAo hL1 hL2 ⊢
  clear hnn hml
  go_enter Tryz.func56, Tryz.ntmps56
  go_upto_region 1 with fail
  rw [hb0'.out]
  have hzx : (Obj.cells #[.int .i64 0, .string { data := #[] }, .slice none 0 0, .int .i64 0, .int .i64 0, .slice none 0 0] 25) = zx := rfl
  rw [hzx]
  generalize (w.alloc (.cells #[.slice ps ml cs] 57)).alloc zx = W0 at *
  clear hzx
  have cN3 := Lib.hid (Dk.next_any B d v l W0 3 (by omega) (by omega) S0.out.dk)
  go_wp2_with fail
  refine cN3.out.mono ?_; rintro e w1 ⟨x, hx, rfl, hD, hK⟩
  have S1 := Lib.hid (S0.out.kept hD hK)
  have O1 := Lib.hid (oat_kept O0.out hK hbd)
  have X1 := Lib.hid (X0.out.kept hK hbd1)
  clear hD hK S0 O0 X0 cN3
  by_cases hx0 : x = 0
  · subst hx0
    have cN := Lib.hid (Dk.next_any B d v l w1 nn h0 (by omega) S1.out.dk)
    go_wp2_with fail
    refine cN.out.mono ?_; rintro e w2 ⟨y, hy, rfl, hD, hK⟩
    have S2 := Lib.hid (S1.out.kept hD hK)
    have X2 := X1.out.kept hK hbd1
    clear hD hK S1 O1 X1 cN
    obtain ⟨bn, on, cn', hv, _, g0⟩ := strs_get S2.out.nms (y := y) (by rw [hnn'.out]; exact hy)
    obtain ⟨rfl, hmm, rfl⟩ := Value.slice.inj hv
    clear hmm hv
    obtain ⟨k1, k2⟩ := hno.out y hy
    generalize ns.getD y [] = nm at *
    have hf := Lib.hid (hfin.out w2 (b0 + 1) ⟨3, nm, [], 0, 0⟩ (.slice none 0 0) (atom_name k1 k2) (by rw [hb0'.out]; omega) (by omega) S2.out.dk S2.out.kp (strsS_nil _ _))
    have hset := Lib.hid (X2.set ⟨3, nm, [], 0, 0⟩ (.slice none 0 0) (.slice none 0 0))
    obtain ⟨⟨z0, y0, y1, y2, y3, y4, y5⟩, f0, f1, f2, f3, f4, f5⟩ := X2
    clear hfin hAo hno S2 k1 k2
    go_wp2_with fail
    refine (show bodyPost _ _ _ _ _ (setEx w2 (b0 + 1) ⟨3, nm, [], 0, 0⟩ (.slice none 0 0) (.slice none 0 0)) from ?_)
    clear y0 y1 y2 y3 y4 y5 f0 f1 f2 f3 f4 f5
    generalize setEx w2 (b0 + 1) ⟨3, nm, [], 0, 0⟩ (.slice none 0 0) (.slice none 0 0) = W9 at *
    obtain ⟨_, q0, q1, q2, q3, q4, q5⟩ := hset.out
    exact bodyPost_ret (v := exV ⟨3, nm, [], 0, 0⟩ (.slice none 0 0) (.slice none 0 0)) (by simp [results, Tryz.results56, go_sem, q0, q1, q2, q3, q4, q5, exV]) rfl hf.out
  · have tx0 : ((x : Int) == 0) = false := by simp; omega
    have cN := Lib.hid (fun (W : World) (hD : Deck B W d v l) => Dk.next_any B d v l W ml (by omega) (by omega) hD)
    have hx0' := Lib.hid hx0
    clear hx0 hno
    go_upto_region 3 with fail
    go_cut [7] (fun x7 wx => ∃ (y b2 : Nat) (u : Value), x7 = .pointer (some ⟨b2, 0, none⟩) ∧ y < ml ∧ Hid (AAt wx b2 (at' L y) u) ∧ Hid (StrsIn (d + 1) w u (at' L y).ws) ∧ Hid (b2 ≠ d ∧ b0 + 1 < b2) ∧ Hid (St B d v l (.slice ps ml cs) L (.slice pn nn cn) ns w wx) ∧ Hid (XF wx (b0 + 1) n0 (.slice none 0 0) (.slice none 0 0)))
    case first =>
      have o1 := O1.out.2
      have hw1 : b0 + 1 < w1.heap.size := X1.out.at_.1
      have hdw : d < w1.heap.size := S1.out.dk.lt
      have hb0lt : b0 < w1.heap.size := O1.out.1
      have hb0ne : b0 ≠ w1.heap.size := by omega
      have o1a : (w1.drew.alloc (.cells #[.string { data := #[] }, .int .i64 0, .slice none 0 0, .int .i64 0, .int .i64 0] 84)).cell? ⟨b0, 0, none⟩ = some (.slice ps ml cs) := (O1.out.keep (show Below w1.heap.size w1 (w1.drew.alloc zat) from trans_b (below_drewN (Below.refl _ _) 1) (alloc_at _ _))).2
      go_region_with (refine (cN.out _ (by first | exact (S1.out.drewN 1).dk | exact ((S1.out.drewN 1).below (alloc_at _ _)).dk)).mono ?_; rintro e w2 ⟨y, hy, rfl, hD, hK⟩; have hK0 : Kept d w1 w2 := (by first | exact ((Kept.refl d w1).drewN 1).trans hK | exact (((Kept.refl d w1).drewN 1).trans (Kept.of_below (alloc_at _ _))).trans hK); have S2 := S1.out.kept hD hK0; obtain ⟨ba, oa, ca, u, hv, hba, g0, g1, g2, g3, g4, g5⟩ := atts_get S2.att0 (y := y) (by rw [hml'.out]; exact hy); obtain ⟨rfl, hmm, rfl⟩ := Value.slice.inj hv; clear hmm hv; have g5' := Lib.hid g5; obtain ⟨pu, cu, rfl, hu2, hu3⟩ := g5; clear hu2 hu3; have kk := fun (hl : ba < w.heap.size) => S2.kp.block ba hl (show ba ≠ d by omega); have g0 := cell_same g0 kk; have g1 := cell_same g1 kk; have g2 := cell_same g2 kk; have g3 := cell_same g3 kk; have g4 := cell_same g4 kk; have al := alloc_at w2 zat; have o2 := (oat_kept O1.out hK0 hbd).2; have o2a := cell_same o2 (al.block b0); have g0a := cell_same g0 (al.block ba); have g1a := cell_same g1 (al.block ba); have g2a := cell_same g2 (al.block ba); have g3a := cell_same g3 (al.block ba); have g4a := cell_same g4 (al.block ba); have S2' := Lib.hid S2; have hK0' := Lib.hid hK0; clear al kk S2 hK0 hD; try (have AF2 : AF w2 w1.heap.size a0 (.slice none 0 0) := (AF.new w1.drew).kept hK (by show w1.heap.size ≠ d; omega); have AF2' := Lib.hid AF2; obtain ⟨⟨q0, q1, q2, q3, q4, q5⟩, f0, f1, f2, f3, f4⟩ := AF2))
      all_goals
        have hs2 := hK0'.out.size
        have hs1 := S1.out.kp.size
        have X2 := X1.out.kept hK0'.out hbd1
        go_wp2_with fail
        go_meet
        case rel =>
          first
          | (refine ⟨y, w2.heap.size, _, rfl, hy, ?_, g5', Lib.hid ⟨by omega, by omega⟩, ?_, ?_⟩
             · exact Lib.hid (AAt.new w2 (at' L y) _ _)
             · exact Lib.hid (S2'.out.below (alloc_at w2 _))
             · exact Lib.hid (X2.keep (alloc_at w2 _)))
          | (refine ⟨y, w1.heap.size, _, rfl, hy, ?_, g5', Lib.hid ⟨by omega, by omega⟩, ?_, ?_⟩
             · exact Lib.hid (AF2'.out.set (at' L y) _)
             · exact Lib.hid (St.setAt S2'.out (at' L y) _ hs1 hdw)
             · exact Lib.hid (XF.block X2 (setAt_block w2 w1.heap.size (at' L y) _ _ (by omega)) (Nat.le_of_eq (setAt_size w2 w1.heap.size (at' L y) _).symm)))
    case rest =>
      obtain ⟨y, b2, u, rfl, hy, hA, hU, hb2, S3, X3⟩ := hcut
      clear S1 O1 X1 cN
      have hok := hAo.out y hy
      obtain ⟨k1, k2, k3, k4, k5⟩ := hok
      have k1' := Lib.hid k1
      have k4' := Lib.hid k4
      have k5' := Lib.hid k5
      clear k1 k4 k5 hAo
      generalize at' L y = a at *
      obtain ⟨nm, kd, ws, lo, hi⟩ := a
      simp only at k1' k2 k3 k4' k5' hA hU
      have hs0 := S3.out.kp.size
      have hA2 := hA.out
      obtain ⟨hb2l, y0, y1, y2, y3, y4⟩ := hA2
      simp only at y0 y1 y2 y3 y4
      have hb2d := hb2.out.1
      have hb2b := hb2.out.2
      rcases k3 with rfl | rfl | rfl
      · obtain ⟨g1, g2, g3, g4, g5⟩ := k4'.out rfl
        have hU' := Lib.hid hU.out
        obtain ⟨pu, cu, rfl, hq1, hq2⟩ := hU.out
        clear hq1 hq2
        obtain ⟨nw, hnw⟩ : ∃ n, ws.length = n := ⟨_, rfl⟩
        have hnw' := Lib.hid hnw
        rw [hnw] at hA hU' y2 g1 g2
        have hok4 := Lib.hid (fun f k (hk : k ≤ nw) => cyc_ok ws f k (by omega) (by omega) g3 g4 g5)
        clear hU k4' k5' hnw g3 g4 g5
        have B4 := alloc_at wc (xo ⟨4, nm, [], 0, 0⟩ (.slice none 0 0) (.slice none 0 0))
        have S4 := Lib.hid (S3.out.below B4)
        have X4 := Lib.hid (X3.out.keep B4)
        have A4 := Lib.hid (hA.out.keep B4)
        have E4 := Lib.hid (XF.new wc ⟨4, nm, [], 0, 0⟩ (.slice none 0 0) (.slice none 0 0))
        go_upto_region 9 with fail
        obtain ⟨b3, hb3⟩ : ∃ b, wc.heap.size = b := ⟨_, rfl⟩
        have hb3' := Lib.hid hb3
        rw [hb3] at E4 hb2l hs0 ⊢
        clear hb3 y0 y1 y2 y3 y4 S3 X3 hA B4
        generalize wc.alloc (xo ⟨4, nm, [], 0, 0⟩ (.slice none 0 0) (.slice none 0 0)) = W4 at *
        have hb3d : b3 ≠ d := by omega
        obtain ⟨_, q0, q1, q2, q3, q4⟩ := A4.out
        simp only at q0 q1 q3 q4
        have cw := Lib.hid (Dk.next_any B d v l W4 nw (by omega) (by omega) S4.out.dk)
        go_wp2_with fail
        refine cw.out.mono ?_; rintro e w5 ⟨f, hf, rfl, hD, hK⟩
        have S5 := Lib.hid (S4.out.kept hD hK)
        have X5 := Lib.hid (X4.out.kept hK hbd1)
        have A5 := Lib.hid (aat_kept A4.out hK hb2d)
        have E5 := Lib.hid (E4.out.kept hK hb3d)
        clear hD hK S4 X4 A4 E4 cw q0 q1 q2 q3 q4
        obtain ⟨_, q0, q1, q2, q3, q4⟩ := A5.out
        simp only at q0 q1 q3 q4
        have cR := Lib.hid (range_any B d v l w5 1 nw nw (by omega) (by omega) (by omega) (by omega) S5.out.dk)
        go_wp2_with fail
        refine cR.out.mono ?_; rintro e w6 ⟨x2, hx2, rfl, hD, hK⟩
        have S6 := Lib.hid (S5.out.kept hD hK)
        have X6 := Lib.hid (X5.out.kept hK hbd1)
        have A6 := Lib.hid (aat_kept A5.out hK hb2d)
        have E6 := Lib.hid (E5.out.kept hK hb3d)
        clear hD hK S5 X5 A5 E5 cR q0 q1 q2 q3 q4
        go_wp2_with fail
        go_loopw [9, 10] (fun x9 x10 wr => ∃ (j : Nat) (xf xk : Int), x9 = .int .i64 xf ∧ x10 = .int .i64 xk ∧ 0 ≤ xk ∧ xk ≤ 4 ∧ 0 ≤ xf ∧ xf ≤ 8 ∧ j ≤ 4 ∧ Hid (xf = (f : Int) + j ∧ xk = 1 + (x2 : Int) - j) ∧ Hid (Round B d v l (.slice ps ml cs) L (.slice pn nn cn) ns w b0 b2 b3 ⟨4, nm, [], 0, 0⟩ ⟨nm, 1, ws, lo, hi⟩ (.slice pu nw cu) (cyc ws f j) wr)) (fun _ x10 _ => (RowKit.intOf x10).toNat)
        case atStart => exact ⟨0, f, 1 + x2, rfl, rfl, by omega, by omega, by omega, by omega, by omega, Lib.hid ⟨by omega, by omega⟩, Lib.hid ⟨⟨_, E6.out, srow_nil _ _⟩, S6.out, X6.out, A6.out⟩⟩
        case round =>
          obtain ⟨j, xf, xk, rfl, rfl, hk0, hk4, hf0, hf8, hj4, hjj, hRd⟩ := hrel
          obtain ⟨⟨uw, hEx, hR⟩, hS', hX', hA'⟩ := hRd.out
          have hS := Lib.hid hS'
          have hX := Lib.hid hX'
          have hA := Lib.hid hA'
          have hEx' := Lib.hid hEx
          have hR' := Lib.hid hR
          obtain ⟨pw, cw, huw⟩ := srow_form hR
          have hcl := cyc_len ws f j
          rw [hcl] at huw
          subst huw
          clear hR hcl hS' hX' hA' hRd
          obtain ⟨_, q0, q1, q2, q3, q4⟩ := hA.out
          simp only at q0 q1 q3 q4
          obtain ⟨⟨_, r0, r1, r2, r3, r4, r5⟩, m0, m1, m2, m3, m4, m5⟩ := hEx
          simp only at r0 r1 r3 r4
          by_cases hlt : 0 < xk
          · obtain ⟨m, hm⟩ : ∃ m, (f + j) % nw = m := ⟨_, rfl⟩
            have hmn : m < nw := by rw [← hm]; exact Nat.mod_lt _ (by omega)
            have e1 : xf.tmod (nw : Int) = (m : Int) := by
              rw [hjj.out.1, show (f : Int) + (j : Int) = ((f + j : Nat) : Int) by omega, tmod_nat, hm]
            have e0 : ((nw : Int) == 0) = false := by simp; omega
            have e2 : IntKind.i64.wrap (xf + 1) = xf + 1 := IntWalk.i64_in _ (by omega)
            have e3 : IntKind.i64.wrap (xk - 1) = xk - 1 := IntWalk.i64_in _ (by omega)
            have e5 : IntKind.i64.wrap (m : Int) = (m : Int) := IntWalk.i64_in _ (by omega)
            have hcy := Lib.hid (show cyc ws f j ++ [ws.getD m []] = cyc ws f (j + 1) from by rw [cyc_succ, hnw'.out, hm])
            obtain ⟨bw, ow, cw2, hv, hbw, g0⟩ := strs_get hU'.out (y := m) (by rw [hnw'.out]; exact hmn)
            obtain ⟨rfl, hmm, rfl⟩ := Value.slice.inj hv
            clear hmm hv
            have g0 := cell_same g0 (fun hl => hS.out.kp.block bw hl (show bw ≠ d by omega))
            have hbwl := World.block_lt_of_cell? _ _ g0
            have hb3l : b3 < wr.heap.size := hEx'.out.at_.1
            have hb2l' : b2 < wr.heap.size := hA.out.1
            have hblk := Lib.hid hR'.out.block
            have hlenc := Lib.hid (cyc_len ws f j)
            have hjj' := hjj
            clear hm r0 r1 r3 r4 r5 q0 q1 q3 q4 m0 m1 m3 m4 m5 hjj
            generalize ws.getD m [] = wd at *
            have e6 : ¬ (nw : Int) = 0 := by omega
            have e7 : ¬ nw = 0 := by omega
            have e8 : (nw == 0) = false := by simpa using e7
            have m2a : (wr.alloc (.cells #[.string (tx wd)] 9)).frozen? ⟨b3, 2, none⟩ = false := by rw [(alloc_at wr _).frozen (p := ⟨b3, 2, none⟩) hb3l]; exact m2
            have m2b : (wr.alloc (.cells #[.string (tx wd)] 9)).drew.frozen? ⟨b3, 2, none⟩ = false := m2a
            go_wp2_with fail
            have hsz : (wr.alloc (.cells #[.string (tx wd)] 9)).drew.heap.size = wr.heap.size + 1 := by show (wr.alloc _).heap.size = _; simp
            have r2a : (wr.alloc (.cells #[.string (tx wd)] 9)).drew.cell? ⟨b3, 2, none⟩ = some (.slice pw j cw) := cell_same r2 ((alloc_at wr _).block b3)
            have r2c : (wr.drew.alloc (.cells #[.string (tx wd)] 9)).cell? ⟨b3, 2, none⟩ = some (.slice pw j cw) := cell_same r2 ((alloc_at wr _).block b3)
            go_cut [] (fun wx => Hid (Round B d v l (.slice ps ml cs) L (.slice pn nn cn) ns w b0 b2 b3 ⟨4, nm, [], 0, 0⟩ ⟨nm, 1, ws, lo, hi⟩ (.slice (some ⟨bw, ow, none⟩) nw cu) (cyc ws f (j + 1)) wx))
            case first =>
              go_region_law
                (refine step_append_str (o := ⟨some 76, _, _, _, _, _⟩) (by rfl) _ _ (by rfl) (b3 + 1) (.slice pw j cw) (cyc ws f j) (by rfl) ?_ _ wd (by rfl) ?_ ?_ ?_ ?_; (exact SRow.keep hR'.out (by first | exact alloc_at _ _ | exact trans_b (alloc_at _ _) (below_drewN (Below.refl _ _) 1) | exact trans_b (below_drewN (Below.refl _ _) 1) (alloc_at _ _))); (focus (simp; done)); (rw [hlenc.out]; omega); (simp; omega); intro vA wA hownA hgrowA; obtain ⟨p6, c6, rfl⟩ := srow_form hownA; have hx3 := hgrowA.block b3 (by simp; omega) (fun e => by have := (hblk.out _ e.symm).1; omega); have s1 := hx3; have s2 := hx3; first | (have s1 : wA.cell? ⟨b3, 2, none⟩ = some (.slice pw j cw) := cell_same r2a (fun _ => hx3); have s2 : wA.frozen? ⟨b3, 2, none⟩ = false := by rw [World.frozen?_of_block (a := ⟨b3, 2, none⟩) hx3]; exact m2b) | (have s1 : wA.cell? ⟨b3, 2, none⟩ = some (.slice pw j cw) := cell_same r2c (fun _ => hx3); have s2 : wA.frozen? ⟨b3, 2, none⟩ = false := by rw [World.frozen?_of_block (a := ⟨b3, 2, none⟩) hx3]; exact m2b))
              all_goals
                have hl2 : (cyc ws f j ++ [wd]).length = (cyc ws f j).length + 1 := by simp
                rw [hl2, hcy.out] at hownA
                have hfin2 := Lib.hid (loop_step hEx'.out hS.out hX.out hA.out (show Below wr.heap.size wr (wr.alloc _).drew from trans_b (alloc_at _ _) (below_drewN (Below.refl _ _) 1)) hgrowA hblk.out hownA hs0 (by omega) (by omega) (by omega))
                clear hownA hgrowA hl2 s1 s2 hx3
                go_wp2_with fail
                go_meet
                case rel => exact hfin2
            case rest =>
              have hR2 := hcut
              have hj1 := hjj'.out
              have hj2 := Lib.hid (show xf + 1 = (f : Int) + ((j + 1 : Nat) : Int) ∧ xk - 1 = 1 + (x2 : Int) - ((j + 1 : Nat) : Int) from by omega)
              have hj3 : j + 1 ≤ 4 := by omega
              have hf9 : xf + 1 ≤ 8 := by omega
              clear hj1
              go_wp2_with fail
              go_roundw
              case rel => exact ⟨j + 1, xf + 1, xk - 1, rfl, rfl, by omega, by omega, by omega, hf9, hj3, hj2, hR2⟩
              case measure => simp [RowKit.intOf]; omega
          · have hj1 := hjj.out
            have hjn : j ≤ nw := by omega
            have hj0 : 1 ≤ j := by omega
            obtain ⟨v1, v2, v3⟩ := hok4.out f j hjn
            have hcl := cyc_len ws f j
            have hat := atom_in (s := nm) (l := cyc ws f j) k1'.out k2 (by omega) (by omega) v1 v2 v3
            have hf := Lib.hid (hfin.out wr (b0 + 1) ⟨4, nm, cyc ws f j, 0, 0⟩ (.slice pw j cw) hat (by rw [hb0'.out]; omega) (by omega) hS.out.dk hS.out.kp ((strs_fresh hR'.out).mono fun g hg _ => ⟨by omega, by omega⟩))
            have hset := Lib.hid (hX.out.set ⟨4, nm, cyc ws f j, 0, 0⟩ (.slice pw j cw) (.slice none 0 0))
            obtain ⟨⟨_, p0, p1, p2, p3, p4, p5⟩, n0', n1', n2', n3', n4', n5'⟩ := hX.out
            clear hj1 hjj v1 v2 v3 hat hcl hS hX hA hEx' hR' hok4 q0 q1 q2 q3 q4 m0 m1 m2 m3 m4 m5
            have hlt' : xk = 0 := by omega
            clear hlt
            subst hlt'
            go_wp2_with fail
            refine (show bodyPost _ _ _ _ _ (setEx wr (b0 + 1) ⟨4, nm, cyc ws f j, 0, 0⟩ (.slice pw j cw) (.slice none 0 0)) from ?_)
            clear r0 r1 r2 r3 r4 r5 p0 p1 p2 p3 p4 p5 n0' n1' n2' n3' n4' n5'
            generalize setEx wr (b0 + 1) ⟨4, nm, cyc ws f j, 0, 0⟩ (.slice pw j cw) (.slice none 0 0) = W9 at *
            obtain ⟨_, q0, q1, q2, q3, q4, q5⟩ := hset.out
            exact bodyPost_ret (v := exV ⟨4, nm, cyc ws f j, 0, 0⟩ (.slice pw j cw) (.slice none 0 0)) (by simp [results, Tryz.results56, go_sem, q0, q1, q2, q3, q4, q5, exV]) rfl hf.out
      · obtain ⟨g1, g2, g3⟩ := k5'.out rfl
        obtain ⟨pu, cu, rfl, hq1, hq2⟩ := hU.out
        clear hq1 hq2
        obtain ⟨nw, hnw⟩ : ∃ n, ws.length = n := ⟨_, rfl⟩
        rw [hnw] at hA y2
        have H0 := Lib.hid (show Hold B d v l (.slice ps ml cs) L (.slice pn nn cn) ns w b0 b2 ⟨nm, 2, ws, lo, hi⟩ (.slice pu nw cu) wc from ⟨S3.out, X3.out, hA.out⟩)
        have hbt := Lib.hid (fun a b (h1 : lo ≤ a) (h2 : a ≤ b) (h3 : b ≤ hi) => atom_between (s := nm) (a := a) (b := b) k1'.out k2 (by omega) h2 (by omega))
        obtain ⟨n, hn⟩ : ∃ n : Nat, hi - lo + 1 = n := ⟨(hi - lo + 1).toNat, by omega⟩
        have hnlo : lo + (n : Int) = hi + 1 := by omega
        have e1 : IntKind.i64.wrap (hi - lo) = hi - lo := IntWalk.i64_in _ (by omega)
        have e2 : IntKind.i64.wrap (hi - lo + 1) = n := by rw [hn]; exact IntWalk.i64_in _ (by omega)
        have hn0 : 0 < n := by omega
        have hn9 : n ≤ 2000000001 := by omega
        have cN := Lib.hid (fun (W : World) (k : Nat) (h0 : 0 < k) (h9 : k ≤ 2000000001) (hD : Deck B W d v l) => Dk.next_any B d v l W k h0 (by omega) hD)
        have hw0 := Lib.hid hs0
        clear k4' k5' hnw hn S3 X3 hA hU k1' hs0
        go_wp2_with fail
        go_cut [11] (fun x11 wx => ∃ lw : Int, x11 = .int .i64 lw ∧ lo ≤ lw ∧ lw ≤ hi ∧ Hid (Hold B d v l (.slice ps ml cs) L (.slice pn nn cn) ns w b0 b2 ⟨nm, 2, ws, lo, hi⟩ (.slice pu nw cu) wx))
        case first =>
          go_region_with (refine (cN.out _ n hn0 hn9 (H0.out.st.drewN 1).dk).mono ?_; rintro e w2 ⟨z, hz, rfl, hD, hK⟩; have H2 := H0.out.kept hD (kept_drew hK) hbd1 hb2d; have H2' := Lib.hid H2; obtain ⟨_, q0, q1, q2, q3, q4⟩ := H2.at_; simp only at q3 q4; have e3 : IntKind.i64.wrap (lo + (z : Int)) = lo + (z : Int) := IntWalk.i64_in _ (by omega); clear H2 hD hK)
          all_goals
            go_wp2_with fail
            go_meet
            case rel => exact ⟨lo + (z : Int), rfl, by omega, by omega, H2'⟩
        case rest =>
          obtain ⟨lw, rfl, hlw1, hlw2, H1⟩ := hcut
          clear e1 e2 hn0 hn9 hnlo H0 y0 y1 y2 y3 y4 hb2l
          have c2 := Lib.hid (cN.out _ 2 (by omega) (by omega) H1.out.st.dk)
          go_wp2_with fail
          refine c2.out.mono ?_; rintro e w3 ⟨x3, hx3, rfl, hD, hK⟩
          have H3 := Lib.hid (H1.out.kept hD hK hbd1 hb2d)
          clear hD hK H1 c2
          go_upto_if 94 with (fail)
          go_cut [11] (fun x11 wx => ∃ lw2 : Int, x11 = .int .i64 lw2 ∧ lo ≤ lw2 ∧ lw2 ≤ hi ∧ Hid (Hold B d v l (.slice ps ml cs) L (.slice pn nn cn) ns w b0 b2 ⟨nm, 2, ws, lo, hi⟩ (.slice pu nw cu) wx))
          case first =>
            by_cases hx30 : x3 = 0
            · subst hx30
              obtain ⟨_, p0, p1, p2, p3, p4⟩ := H3.out.at_
              simp only at p3 p4
              go_wp2_with fail
              go_region_with (refine (cN.out _ 12 (by omega) (by omega) (H3.out.st.drewN 1).dk).mono ?_; rintro e w4 ⟨z, hz, rfl, hD, hK⟩; have H4 := H3.out.kept hD (kept_drew hK) hbd1 hb2d; have H4' := Lib.hid H4; obtain ⟨_, q0, q1, q2, q3, q4⟩ := H4.at_; simp only at q3 q4; have e3 : IntKind.i64.wrap ((z : Int) - 4) = (z : Int) - 4 := IntWalk.i64_in _ (by omega); obtain ⟨mx, hmx⟩ : ∃ mx, max ((z : Int) - 4) lo = mx := ⟨_, rfl⟩; obtain ⟨mn, hmn⟩ : ∃ mn, min mx hi = mn := ⟨_, rfl⟩; have hmnb := Lib.hid (show lo ≤ mn ∧ mn ≤ hi from by omega); clear H4 hD hK)
              all_goals
                go_wp2_with fail
                go_meet
                case rel => exact ⟨mn, rfl, hmnb.out.1, hmnb.out.2, H4'⟩
            · have tx3 : ((x3 : Int) == 0) = false := by simp; omega
              go_wp2_with fail
              go_meet
              case rel => exact ⟨lw, rfl, hlw1, hlw2, H3⟩
          case rest =>
            obtain ⟨lw2, rfl, hc1, hc2, H5⟩ := hcut
            clear H3 hlw1 hlw2 hx3
            obtain ⟨n2, hn2⟩ : ∃ n : Nat, hi - lw2 + 1 = n := ⟨(hi - lw2 + 1).toNat, by omega⟩
            have hnlo : lw2 + (n2 : Int) = hi + 1 := by omega
            have e1 : IntKind.i64.wrap (hi - lw2) = hi - lw2 := IntWalk.i64_in _ (by omega)
            have e2 : IntKind.i64.wrap (hi - lw2 + 1) = n2 := by rw [hn2]; exact IntWalk.i64_in _ (by omega)
            have c5 := Lib.hid (cN.out _ n2 (by omega) (by omega) H5.out.st.dk)
            clear hn2
            obtain ⟨_, p0, p1, p2, p3, p4⟩ := H5.out.at_
            simp only at p3 p4
            go_wp2_with fail
            refine c5.out.mono ?_; rintro e w6 ⟨z2, hz2, rfl, hD, hK⟩
            have H6 := Lib.hid (H5.out.kept hD hK hbd1 hb2d)
            have e3 : IntKind.i64.wrap (lw2 + (z2 : Int)) = lw2 + (z2 : Int) := IntWalk.i64_in _ (by omega)
            have hh2 : lw2 + (z2 : Int) ≤ hi := by omega
            clear hD hK H5 c5 e1 e2 p0 p1 p2 p3 p4
            have c6 := Lib.hid (cN.out _ 2 (by omega) (by omega) H6.out.st.dk)
            go_wp2_with fail
            refine c6.out.mono ?_; rintro e w7 ⟨x7, hx7, rfl, hD, hK⟩
            have H7 := Lib.hid (H6.out.kept hD hK hbd1 hb2d)
            clear hD hK H6 c6 e3
            go_upto_if 115 with (fail)
            go_cut [12] (fun x12 wx => ∃ hg : Int, x12 = .int .i64 hg ∧ lw2 ≤ hg ∧ hg ≤ hi ∧ Hid (Hold B d v l (.slice ps ml cs) L (.slice pn nn cn) ns w b0 b2 ⟨nm, 2, ws, lo, hi⟩ (.slice pu nw cu) wx))
            case first =>
              by_cases hx70 : x7 = 0
              · subst hx70
                obtain ⟨_, p0, p1, p2, p3, p4⟩ := H7.out.at_
                simp only at p3 p4
                go_wp2_with fail
                go_region_with (refine (cN.out _ 4 (by omega) (by omega) (H7.out.st.drewN 1).dk).mono ?_; rintro e w8 ⟨z, hz, rfl, hD, hK⟩; have H8 := H7.out.kept hD (kept_drew hK) hbd1 hb2d; have H8' := Lib.hid H8; obtain ⟨_, q0, q1, q2, q3, q4⟩ := H8.at_; simp only at q3 q4; have e3 : IntKind.i64.wrap (lw2 + (z : Int)) = lw2 + (z : Int) := IntWalk.i64_in _ (by omega); obtain ⟨mn, hmn⟩ : ∃ mn, min (lw2 + (z : Int)) hi = mn := ⟨_, rfl⟩; have hmnb := Lib.hid (show lw2 ≤ mn ∧ mn ≤ hi from by omega); clear H8 hD hK)
                all_goals
                  go_wp2_with fail
                  go_meet
                  case rel => exact ⟨mn, rfl, hmnb.out.1, hmnb.out.2, H8'⟩
              · have tx7 : ((x7 : Int) == 0) = false := by simp; omega
                go_wp2_with fail
                go_meet
                case rel => exact ⟨lw2 + (z2 : Int), rfl, by omega, hh2, H7⟩
            case rest =>
              obtain ⟨hg, rfl, hg1, hg2, H9⟩ := hcut
              clear H7 hx7 hz2 hh2
              have hat := hbt.out lw2 hg hc1 hg1 hg2
              have hf := Lib.hid (hfin.out _ (b0 + 1) ⟨5, nm, [], lw2, hg⟩ (.slice none 0 0) hat (by rw [hb0'.out]; omega) (by omega) H9.out.st.dk H9.out.st.kp (strsS_nil _ _))
              have hset := Lib.hid (H9.out.xf.set ⟨5, nm, [], lw2, hg⟩ (.slice none 0 0) (.slice none 0 0))
              obtain ⟨_, p0, p1, p2, p3, p4⟩ := H9.out.at_
              simp only at p0 p3 p4
              obtain ⟨⟨z0, r0, r1, r2, r3, r4, r5⟩, f0, f1, f2, f3, f4, f5⟩ := H9.out.xf
              clear hfin H9 hat hbt cN
              go_wp2_with fail
              refine (show bodyPost _ _ _ _ _ (setEx _ (b0 + 1) ⟨5, nm, [], lw2, hg⟩ (.slice none 0 0) (.slice none 0 0)) from ?_)
              clear p0 p1 p2 p3 p4 r0 r1 r2 r3 r4 r5 f0 f1 f2 f3 f4 f5
              generalize setEx _ (b0 + 1) ⟨5, nm, [], lw2, hg⟩ (.slice none 0 0) (.slice none 0 0) = W9 at *
              obtain ⟨_, q0, q1, q2, q3, q4, q5⟩ := hset.out
              exact bodyPost_ret (v := exV ⟨5, nm, [], lw2, hg⟩ (.slice none 0 0) (.slice none 0 0)) (by simp [results, Tryz.results56, go_sem, q0, q1, q2, q3, q4, q5, exV]) rfl hf.out
      · have hf := Lib.hid (hfin.out wc (b0 + 1) ⟨3, nm, [], 0, 0⟩ (.slice none 0 0) (atom_name k1'.out k2) (by rw [hb0'.out]; omega) (by omega) S3.out.dk S3.out.kp (strsS_nil _ _))
        have hset := Lib.hid (X3.out.set ⟨3, nm, [], 0, 0⟩ (.slice none 0 0) (.slice none 0 0))
        obtain ⟨⟨z0, r0, r1, r2, r3, r4, r5⟩, f0, f1, f2, f3, f4, f5⟩ := X3.out
        clear hfin k4' k5' S3 X3 hA hU
        go_wp2_with fail
        refine (show bodyPost _ _ _ _ _ (setEx wc (b0 + 1) ⟨3, nm, [], 0, 0⟩ (.slice none 0 0) (.slice none 0 0)) from ?_)
        clear y0 y1 y2 y3 y4 r0 r1 r2 r3 r4 r5 f0 f1 f2 f3 f4 f5
        generalize setEx wc (b0 + 1) ⟨3, nm, [], 0, 0⟩ (.slice none 0 0) (.slice none 0 0) = W9 at *
        obtain ⟨_, q0, q1, q2, q3, q4, q5⟩ := hset.out
        exact bodyPost_ret (v := exV ⟨3, nm, [], 0, 0⟩ (.slice none 0 0) (.slice none 0 0)) (by simp [results, Tryz.results56, go_sem, q0, q1, q2, q3, q4, q5, exV]) rfl hf.out
end Go.Proofs.YtjmipikahaoblaaGreatDoor.Syn
namespace Go.Proofs.YtjmipikahaoblaaGreatDoor.Syn
open Go.RowKit Go.Lib Go.Proofs.YtjmipikahaoblaaGreatDoor.Bas Go.Proofs.YtjmipikahaoblaaGreatDoor.Cal Go.Proofs.YtjmipikahaoblaaGreatDoor.Lx Go.Proofs.YtjmipikahaoblaaGreatDoor.Sc
set_option linter.unusedVariables false

theorem FAll.and {p q : Nd → Fo → Prop} : ∀ F, FAll p F → FAll q F → FAll (fun d k => p d k ∧ q d k) F
  | .nil, _, _ => trivial
  | .cons d k r, h1, h2 => ⟨⟨h1.1, h2.1⟩, FAll.and r h1.2 h2.2⟩
theorem all_deep (n : Nat) : ∀ F : Fo, F.deep ≤ n → FAll (fun d k => k.deep + 1 ≤ n) F
  | .nil, _ => trivial
  | .cons d k r, h => by
    rw [Fo.deep] at h
    exact ⟨by omega, all_deep n r (by omega)⟩
theorem all_node : ∀ F : Fo, nodesB F = true → FAll (fun d k => nodeB d k.len = true ∧ nodesB k = true) F
  | .nil, _ => trivial
  | .cons d k r, h => by
    rw [nodesB, Bool.and_eq_true, Bool.and_eq_true] at h
    exact ⟨h.1, all_node r h.2⟩
theorem node_op {d : Nd} {n : Nat} (h : nodeB d n = true) : (1 ≤ d.op ∧ d.op ≤ 8) ∧ (d.op ≤ 5 → n = 0) ∧ (d.op = 6 → n = 1) ∧ (7 ≤ d.op → 2 ≤ n ∧ d.nm = [] ∧ d.ws = [] ∧ d.lo = 0 ∧ d.hi = 0) ∧ (d.op = 6 → d.nm = [] ∧ d.ws = [] ∧ d.lo = 0 ∧ d.hi = 0) := by
  obtain ⟨op, nm, ws, lo, hi⟩ := d
  simp only [nodeB, Bool.and_eq_true, decide_eq_true_eq] at h
  obtain ⟨⟨⟨⟨⟨o1, o8⟩, hnm⟩, hws⟩, hlh⟩, hn⟩ := h
  refine ⟨⟨o1, o8⟩, fun h5 => ?_, fun h6 => ?_, fun h7 => ?_, fun h6 => ?_⟩
  · simp only [] at h5
    rw [if_neg (by omega), if_neg (by omega)] at hn
    exact of_decide_eq_true hn
  · simp only [] at h6
    rw [if_pos h6] at hn
    exact of_decide_eq_true hn
  · simp only [] at h7
    rw [if_neg (by omega), if_pos (by omega)] at hn
    rw [if_neg (by omega)] at hnm hws hlh
    exact ⟨of_decide_eq_true hn, of_decide_eq_true hnm, of_decide_eq_true hws, (of_decide_eq_true hlh).1, (of_decide_eq_true hlh).2⟩
  · simp only [] at h6
    rw [if_neg (by omega)] at hnm hws hlh
    exact ⟨of_decide_eq_true hnm, of_decide_eq_true hws, (of_decide_eq_true hlh).1, (of_decide_eq_true hlh).2⟩
theorem join_one (L : List Tok) (w : List UInt8) (op : Int) (one : Rs → Rs × Ex) (r : Rs) (j b : Nat) (e : Ex) (h : one r = (⟨j, 0, b⟩, e)) (hn : Not L w j) : joinR L w op one r = (⟨j, 0, b⟩, e) := by
  unfold joinR
  rw [h]
  simp only []
  rw [joinF_stop L w one ⟨j, 0, b⟩ [e] (hn b)]
  rfl
/-- How an expression is read, at each level. -/
def Rd (d : Nd) (k : Fo) : Prop := ∀ (L : List Tok) (f i b : Nat), k.deep ≤ f → Has L i (exT ⟨d, k⟩) →
  (d.op ≤ 6 → C0 L (i + (exT ⟨d, k⟩).length) → negR L (eitherF L f) ⟨i, 0, b⟩ = (⟨i + (exT ⟨d, k⟩).length, 0, b⟩, ⟨d, k⟩)) ∧
  (d.op ≤ 7 → C1 L (i + (exT ⟨d, k⟩).length) → bothR L (eitherF L f) ⟨i, 0, b⟩ = (⟨i + (exT ⟨d, k⟩).length, 0, b⟩, ⟨d, k⟩)) ∧
  (C2 L (i + (exT ⟨d, k⟩).length) → eitherF L (f + 1) ⟨i, 0, b⟩ = (⟨i + (exT ⟨d, k⟩).length, 0, b⟩, ⟨d, k⟩))
/-- An argument in parentheses. -/
theorem par_read (L : List Tok) (f i b : Nat) (d : Nd) (k : Fo) (hR : Rd d k) (hf : k.deep + 1 ≤ f) (hH : Has L i (mkT [40] :: exT ⟨d, k⟩ ++ [mkT [41]])) :
    negR L (eitherF L f) ⟨i, 0, b⟩ = (⟨i + (mkT [40] :: exT ⟨d, k⟩ ++ [mkT [41]]).length, 0, b⟩, ⟨d, k⟩) := by
  obtain ⟨g, rfl⟩ : ∃ g, f = g + 1 := ⟨f - 1, by omega⟩
  obtain ⟨h3, h4⟩ := has_app (has_cons hH).2
  exact atom_par L _ i b _ _ hH ((hR L g (i + 1) b (by omega) h3).2.2 (c2_mark (has_cons h4).1))
theorem argT_par {op : Int} {d : Nd} {k : Fo} (h : parB op d.op = true) : argT op d k = mkT [40] :: exT ⟨d, k⟩ ++ [mkT [41]] := by
  unfold argT; rw [if_pos h]; rfl
theorem argT_bare {op : Int} {d : Nd} {k : Fo} (h : parB op d.op = false) : argT op d k = exT ⟨d, k⟩ := by
  unfold argT; rw [if_neg (by rw [h]; simp)]; rfl
/-- An argument of not and of and. -/
theorem kid_neg (L : List Tok) (f : Nat) (op : Int) (hop : op ≠ 8) (d : Nd) (k : Fo) (h8 : d.op ≤ 8) (hR : Rd d k) (hf : k.deep + 1 ≤ f) : Reads L op (negR L (eitherF L f)) (C0 L) d k := fun i b hH hC => by
  cases hp : parB op d.op with
  | true =>
    rw [argT_par hp] at hH ⊢
    exact par_read L f i b d k hR hf hH
  | false =>
    rw [argT_bare hp] at hH hC ⊢
    have h6 : d.op ≤ 6 := by
      unfold parB at hp
      simp only [Bool.or_eq_false_iff, Bool.and_eq_false_iff, decide_eq_false_iff_not] at hp
      omega
    exact (hR L f i b (by omega) hH).1 h6 hC
/-- An argument of or. -/
theorem kid_both (L : List Tok) (f : Nat) (d : Nd) (k : Fo) (h8 : d.op ≤ 8) (hR : Rd d k) (hf : k.deep + 1 ≤ f) : Reads L 8 (bothR L (eitherF L f)) (C1 L) d k := fun i b hH hC => by
  cases hp : parB 8 d.op with
  | true =>
    rw [argT_par hp] at hH hC ⊢
    exact join_one L wAnd 7 _ _ _ b _ (par_read L f i b d k hR hf hH) hC.2
  | false =>
    rw [argT_bare hp] at hH hC ⊢
    have h7 : d.op ≤ 7 := by
      unfold parB at hp
      simp only [Bool.or_eq_false_iff, Bool.and_eq_false_iff, decide_eq_false_iff_not] at hp
      omega
    exact (hR L f i b (by omega) hH).2.1 h7 hC
/-- A node is read, if its arguments are. -/
theorem node_read (d : Nd) (k : Fo) (hd : nodeB d k.len = true) (hk : nodesB k = true) (hA : FAll Rd k) : Rd d k := by
  intro L f i b hf hH
  obtain ⟨⟨o1, o8⟩, n5, n6, n7, n6'⟩ := node_op hd
  have hAll := FAll.and k (FAll.and k hA (all_deep k.deep k (Nat.le_refl _))) (all_node k hk)
  have hneg : ∀ op, op ≠ 8 → FAll (Reads L op (negR L (eitherF L f)) (C0 L)) k := fun op ho => FAll.imp (fun d' k' h => kid_neg L f op ho d' k' (node_op h.2.1).1.2 h.1.1 (by have := h.1.2; omega)) k hAll
  have hboth : FAll (Reads L 8 (bothR L (eitherF L f)) (C1 L)) k := FAll.imp (fun d' k' h => kid_both L f d' k' (node_op h.2.1).1.2 h.1.1 (by have := h.1.2; omega)) k hAll
  have s2 : ∀ {j}, C0 L j → Not L wAnd j → negR L (eitherF L f) ⟨i, 0, b⟩ = (⟨j, 0, b⟩, ⟨d, k⟩) → bothR L (eitherF L f) ⟨i, 0, b⟩ = (⟨j, 0, b⟩, ⟨d, k⟩) := fun _ hn h => join_one L wAnd 7 _ _ _ b _ h hn
  have s3 : ∀ {j}, Not L wOr j → bothR L (eitherF L f) ⟨i, 0, b⟩ = (⟨j, 0, b⟩, ⟨d, k⟩) → eitherF L (f + 1) ⟨i, 0, b⟩ = (⟨j, 0, b⟩, ⟨d, k⟩) := fun hn h => join_one L wOr 8 _ _ _ b _ h hn
  by_cases h6 : d.op ≤ 6
  · have hneg6 : C0 L (i + (exT ⟨d, k⟩).length) → negR L (eitherF L f) ⟨i, 0, b⟩ = (⟨i + (exT ⟨d, k⟩).length, 0, b⟩, ⟨d, k⟩) := by
      intro hC
      by_cases h5 : d.op ≤ 5
      · cases k with
        | cons d' k' r => have := n5 h5; rw [Fo.len] at this; omega
        | nil =>
          have e : exT ⟨d, .nil⟩ = leafT d := by
            unfold exT nodeT
            rw [if_pos ⟨o1, h5⟩]
          rw [e] at hH hC ⊢
          exact leaf_read L _ i b d h5 hd hH hC
      · have e6 : d.op = 6 := by omega
        obtain ⟨f1, f2, f3, f4⟩ := n6' e6
        cases k with
        | nil => have := n6 e6; rw [Fo.len] at this; omega
        | cons d' k' r =>
          cases r with
          | cons d2 k2 r2 => have := n6 e6; rw [Fo.len, Fo.len] at this; omega
          | nil =>
            have e : exT ⟨d, .cons d' k' .nil⟩ = nmT wNot :: argT d.op d' k' := by
              unfold exT nodeT
              rw [if_neg (show ¬ (1 ≤ d.op ∧ d.op ≤ 5) from by omega), if_pos e6, argsT_true, argsT, List.append_nil]
              rfl
            rw [e] at hH hC ⊢
            obtain ⟨h1, h2⟩ := has_cons hH
            have el : i + (nmT wNot :: argT d.op d' k').length = i + 1 + (argT d.op d' k').length := by rw [List.length_cons]; omega
            rw [el] at hC ⊢
            rw [neg_not L _ i b (by rw [is_at h1]; decide), (hneg d.op (by omega)).1 (i + 1) b h2 hC]
            have ed : d = ⟨6, [], [], 0, 0⟩ := by
              obtain ⟨op, nm, ws, lo, hi⟩ := d
              simp only [] at e6 f1 f2 f3 f4
              rw [e6, f1, f2, f3, f4]
            rw [ed]
            rfl
    refine ⟨fun _ hC => hneg6 hC, fun _ hC => s2 hC.1 hC.2 (hneg6 hC.1), fun hC => s3 hC.2 (s2 hC.1.1 hC.1.2 (hneg6 hC.1.1))⟩
  · have h7 : 7 ≤ d.op := by omega
    obtain ⟨g2, f1, f2, f3, f4⟩ := n7 h7
    have e : exT ⟨d, k⟩ = argsT d.op true k := by
      unfold exT nodeT
      rw [if_neg (show ¬ (1 ≤ d.op ∧ d.op ≤ 5) from by omega), if_neg (show ¬ d.op = 6 from by omega)]
      rfl
    cases k with
    | nil => rw [Fo.len] at g2; omega
    | cons d1 k1 r1 =>
      cases r1 with
      | nil => rw [Fo.len, Fo.len] at g2; omega
      | cons d2 k2 r2 =>
        have hop : ∀ op : Int, d.op = op → opE op (⟨d1, k1⟩ :: (Fo.cons d2 k2 r2).toL) = ⟨d, .cons d1 k1 (.cons d2 k2 r2)⟩ := by
          intro op ho
          unfold opE
          rw [if_neg (by rw [Fo.toL]; simp)]
          have ed : d = ⟨op, [], [], 0, 0⟩ := by
            obtain ⟨op', nm, ws, lo, hi⟩ := d
            simp only [] at ho f1 f2 f3 f4
            rw [ho, f1, f2, f3, f4]
          rw [ed, Fo.ofL, Fo.ofL_toL]
        rw [e] at hH ⊢
        by_cases e7 : d.op = 7
        · have hb : C1 L (i + (argsT d.op true (.cons d1 k1 (.cons d2 k2 r2))).length) → bothR L (eitherF L f) ⟨i, 0, b⟩ = (⟨i + (argsT d.op true (.cons d1 k1 (.cons d2 k2 r2))).length, 0, b⟩, ⟨d, .cons d1 k1 (.cons d2 k2 r2)⟩) := by
            intro hC
            rw [e7] at hH hC ⊢
            have := join_all L 7 (negR L (eitherF L f)) (C0 L) (fun i h => c0_and h) d1 k1 (.cons d2 k2 r2) (hneg 7 (by decide)) i b hH hC.2 hC.1
            rw [hop 7 e7] at this
            exact this
          exact ⟨fun h => by omega, fun _ hC => hb hC, fun hC => s3 hC.2 (hb hC.1)⟩
        · have e8 : d.op = 8 := by omega
          refine ⟨fun h => by omega, fun h => by omega, fun hC => ?_⟩
          rw [e8] at hH hC ⊢
          have := join_all L 8 (bothR L (eitherF L f)) (C1 L) (fun i h => c1_or h) d1 k1 (.cons d2 k2 r2) hboth i b hH hC.2 hC.1
          rw [hop 8 e8] at this
          exact this
/-- Every expression of a list is read. -/
theorem all_read : ∀ F : Fo, nodesB F = true → FAll Rd F
  | .nil, _ => trivial
  | .cons d k r, h => by
    rw [nodesB, Bool.and_eq_true, Bool.and_eq_true] at h
    exact ⟨node_read d k h.1.1 h.1.2 (all_read k h.1.2), all_read r h.2⟩
theorem ex_read (e : Ex) (h : exB e = true) : Rd e.d e.kids := by
  unfold exB at h
  rw [Bool.and_eq_true] at h
  exact node_read e.d e.kids h.1 h.2 (all_read e.kids h.2)
theorem argT_len (op : Int) (d : Nd) (k : Fo) : (exT ⟨d, k⟩).length ≤ (argT op d k).length := by
  cases hp : parB op d.op with
  | true => rw [argT_par hp]; simp; omega
  | false => rw [argT_bare hp]; exact Nat.le_refl _
theorem args_len (op : Int) : ∀ F : Fo, FAll (fun d k => 1 + k.sizes ≤ (exT ⟨d, k⟩).length) F → F.sizes + F.len ≤ (argsT op false F).length
  | .nil, _ => Nat.le_refl _
  | .cons d k r, h => by
    have h1 := args_len op r h.2
    have h2 := argT_len op d k
    have h3 : 1 + k.sizes ≤ (exT ⟨d, k⟩).length := h.1
    rw [argsT_false, Fo.sizes, Fo.len, List.length_cons, List.length_append]
    omega
theorem node_len (d : Nd) (k : Fo) (hd : nodeB d k.len = true) (hA : FAll (fun d k => 1 + k.sizes ≤ (exT ⟨d, k⟩).length) k) : 1 + k.sizes ≤ (exT ⟨d, k⟩).length := by
  obtain ⟨⟨o1, o8⟩, n5, n6, n7, _⟩ := node_op hd
  by_cases h5 : d.op ≤ 5
  · have h0 := n5 h5
    cases k with
    | cons d' k' r => rw [Fo.len] at h0; omega
    | nil =>
      unfold exT nodeT
      rw [if_pos ⟨o1, h5⟩, Fo.sizes]
      unfold leafT
      split
      · simp
      · split
        · simp
        · split
          · simp
          · split
            · simp
            · simp
  · have he : exT ⟨d, k⟩ = (if d.op = 6 then [nmT wNot] else []) ++ argsT d.op true k := by
      unfold exT nodeT
      rw [if_neg (show ¬ (1 ≤ d.op ∧ d.op ≤ 5) from by omega)]
    rw [he]
    cases k with
    | nil =>
      rw [Fo.len] at n6 n7
      by_cases e6 : d.op = 6
      · have := n6 e6; omega
      · have := (n7 (by omega)).1; omega
    | cons d1 k1 r1 =>
      have h1 := args_len d.op r1 hA.2
      have h2 := argT_len d.op d1 k1
      have h3 : 1 + k1.sizes ≤ (exT ⟨d1, k1⟩).length := hA.1
      rw [argsT_true, Fo.sizes, List.length_append, List.length_append]
      rw [Fo.len] at n6 n7
      by_cases e6 : d.op = 6
      · rw [if_pos e6, List.length_cons, List.length_nil]; omega
      · have := (n7 (by omega)).1
        omega
theorem all_len : ∀ F : Fo, nodesB F = true → FAll (fun d k => 1 + k.sizes ≤ (exT ⟨d, k⟩).length) F
  | .nil, _ => trivial
  | .cons d k r, h => by
    rw [nodesB, Bool.and_eq_true, Bool.and_eq_true] at h
    exact ⟨node_len d k h.1.1 (all_len k h.1.2), all_len r h.2⟩
/-- An expression has at least as many tokens as nodes. -/
theorem ex_len (e : Ex) (h : exB e = true) : e.size ≤ (exT e).length := by
  unfold exB at h
  rw [Bool.and_eq_true] at h
  exact node_len e.d e.kids h.1 (all_len e.kids h.2)
/-- A valid expression's tokens are read as itself, where what follows cannot continue it. -/
theorem read_back (L : List Tok) (i : Nat) (e : Ex) (h : validB e = true) (hH : Has L i (exT e)) (hC : C2 L (i + (exT e).length)) : readR L ⟨i, 0, 0⟩ = (⟨i + (exT e).length, 0, 0⟩, e) := by
  unfold validB at h
  rw [Bool.and_eq_true, Bool.and_eq_true] at h
  have hd : e.kids.deep ≤ L.length + 1 := by
    have h1 := ex_len e h.2
    have h2 := Fo.deep_le_sizes e.kids
    have h3 : e.size = 1 + e.kids.sizes := rfl
    have h4 := has_le hH (by omega)
    omega
  have hr := (ex_read e h.2 L (L.length + 1) i 0 hd hH).2.2 hC
  have h1 := of_decide_eq_true h.1.1
  have h2 := of_decide_eq_true h.1.2
  unfold readR eitherR
  rw [if_neg (by simp), hr, if_neg (fun hh => by
    rcases hh.2 with x | x
    · exact absurd x (show ¬ 300 < e.size from by omega)
    · exact absurd x (show ¬ 16 < e.depth from by omega))]
end Go.Proofs.YtjmipikahaoblaaGreatDoor.Syn
namespace Go.Proofs.YtjmipikahaoblaaGreatDoor.Syn
open Go.RowKit Go.Lib Go.Proofs.YtjmipikahaoblaaGreatDoor.Bas Go.Proofs.YtjmipikahaoblaaGreatDoor.Cal Go.Proofs.YtjmipikahaoblaaGreatDoor.Lx Go.Proofs.YtjmipikahaoblaaGreatDoor.Sc
set_option linter.unusedVariables false

def parT (X : List Tok) : List Tok := mkT [40] :: X ++ [mkT [41]]
/-- What stands in L at i is read as e, whatever follows that cannot continue it. -/
def Whole (X : List Tok) (e : Ex) : Prop := ∀ (L : List Tok) (i b : Nat), Has L i X → C2 L (i + X.length) → eitherR L ⟨i, 0, b⟩ = (⟨i + X.length, 0, b⟩, e)
theorem whole_ex (e : Ex) (h : exB e = true) : Whole (exT e) e := fun L i b hH hC => by
  have hd : e.kids.deep ≤ L.length + 1 := by
    have h1 := ex_len e h
    have h2 := Fo.deep_le_sizes e.kids
    have h3 : e.size = 1 + e.kids.sizes := rfl
    have h4 := has_le hH (by omega)
    omega
  exact (ex_read e h L (L.length + 1) i b hd hH).2.2 hC
theorem par_neg {X : List Tok} {e : Ex} (h : Whole X e) (L : List Tok) (i b : Nat) (hH : Has L i (parT X)) : negR L (eitherR L) ⟨i, 0, b⟩ = (⟨i + (parT X).length, 0, b⟩, e) := by
  obtain ⟨h3, h4⟩ := has_app (has_cons hH).2
  exact atom_par L _ i b _ _ hH (h L (i + 1) b h3 (c2_mark (has_cons h4).1))
theorem par_both {X : List Tok} {e : Ex} (h : Whole X e) (L : List Tok) (i b : Nat) (hH : Has L i (parT X)) (hn : Not L wAnd (i + (parT X).length)) : bothR L (eitherR L) ⟨i, 0, b⟩ = (⟨i + (parT X).length, 0, b⟩, e) :=
  join_one L wAnd 7 _ _ _ b _ (par_neg h L i b hH) hn
/-- Parentheses make no difference. -/
theorem whole_par {X : List Tok} {e : Ex} (h : Whole X e) : Whole (parT X) e := fun L i b hH hC => by
  rw [either_step]
  exact join_one L wOr 8 _ _ _ b _ (par_both h L i b hH hC.1.2) hC.2
def parsT : Nat → List Tok → List Tok
  | 0, X => X
  | n + 1, X => parT (parsT n X)
theorem whole_pars {X : List Tok} {e : Ex} (h : Whole X e) : ∀ n, Whole (parsT n X) e
  | 0 => h
  | n + 1 => whole_par (whole_pars h n)
/-- Arguments, each in parentheses, with a word between them. -/
def partsT (w : List UInt8) : List (List Tok) → List Tok
  | [] => []
  | X :: r => nmT w :: (parT X ++ partsT w r)
def Wholes : List (List Tok) → List Ex → Prop
  | [], [] => True
  | X :: r, e :: s => Whole X e ∧ Wholes r s
  | _, _ => False
theorem parts_run (L : List Tok) (w : List UInt8) (one : Rs → Rs × Ex) (E : Nat → Prop) (b : Nat) (hE : ∀ i, i < L.length ∧ tk L i = nmT w → E i)
    (ho : ∀ X e i, Whole X e → Has L i (parT X) → E (i + (parT X).length) → one ⟨i, 0, b⟩ = (⟨i + (parT X).length, 0, b⟩, e)) :
    ∀ (P : List (List Tok)) (S : List Ex), Wholes P S → ∀ (i : Nat) (acc : List Ex) (f : Nat), P.length ≤ f → Has L i (partsT w P) → Not L w (i + (partsT w P).length) → E (i + (partsT w P).length) →
      joinF L w one f ⟨i, 0, b⟩ acc = (⟨i + (partsT w P).length, 0, b⟩, acc ++ S)
  | [], [], _, i, acc, f, _, _, hn, _ => by
    rw [joinF_stop L w one ⟨i, 0, b⟩ acc (hn b) f, List.append_nil]; rfl
  | [], e :: s, hW, _, _, _, _, _, _, _ => hW.elim
  | X :: r, [], hW, _, _, _, _, _, _, _ => hW.elim
  | X :: r, e :: s, hW, i, acc, 0, hf, _, _, _ => by simp at hf
  | X :: r, e :: s, hW, i, acc, f + 1, hf, hH, hn, hc => by
    rw [partsT] at hH hn hc ⊢
    obtain ⟨h1, h2⟩ := has_cons hH
    obtain ⟨h3, h4⟩ := has_app h2
    have el : i + (nmT w :: (parT X ++ partsT w r)).length = (i + 1 + (parT X).length) + (partsT w r).length := by
      rw [List.length_cons, List.length_append]; omega
    rw [el] at hn hc ⊢
    have hc1 : E (i + 1 + (parT X).length) := by
      cases r with
      | nil => exact hc
      | cons X2 r2 => rw [partsT] at h4; exact hE _ (has_cons h4).1
    rw [joinF, if_pos ⟨rfl, by rw [is_at h1]; exact decide_eq_true ⟨rfl, rfl⟩⟩, show Rs.go ⟨i, 0, b⟩ = ⟨i + 1, 0, b⟩ from rfl, ho X e (i + 1) hW.1 h3 hc1]
    rw [parts_run L w one E b hE ho r s hW.2 _ _ f (by simp at hf; omega) h4 hn hc, List.append_assoc]
    rfl
theorem parts_len (w : List UInt8) : ∀ P : List (List Tok), P.length ≤ (partsT w P).length
  | [] => Nat.le_refl _
  | X :: r => by
    have := parts_len w r
    rw [partsT, List.length_cons, List.length_cons, List.length_append]; omega
/-- Arguments of and, each in parentheses. -/
theorem whole_and (X : List Tok) (P : List (List Tok)) (e : Ex) (S : List Ex) (h : Whole X e) (hP : Wholes P S) (h2 : S ≠ []) : Whole (parT X ++ partsT wAnd P) ⟨⟨7, [], [], 0, 0⟩, Fo.ofL (e :: S)⟩ := fun L i b hH hC => by
  obtain ⟨h3, h4⟩ := has_app hH
  rw [List.length_append, ← Nat.add_assoc] at hC ⊢
  have hlen : P.length ≤ L.length + 1 := by
    have := parts_len wAnd P
    by_cases h0 : 0 < (partsT wAnd P).length
    · have := has_le h4 h0; omega
    · omega
  have hb : bothR L (eitherR L) ⟨i, 0, b⟩ = (⟨i + (parT X).length + (partsT wAnd P).length, 0, b⟩, ⟨⟨7, [], [], 0, 0⟩, Fo.ofL (e :: S)⟩) := by
    unfold bothR joinR
    rw [par_neg h L i b h3]
    simp only []
    rw [parts_run L wAnd _ (fun _ => True) b (fun _ _ => trivial) (fun X e i hw hH _ => par_neg hw L i b hH) P S hP _ _ _ hlen h4 hC.1.2 trivial]
    have hne : ¬ ([e] ++ S).length = 1 := by
      cases S with
      | nil => exact absurd rfl h2
      | cons s r => simp
    show (_, opE 7 ([e] ++ S)) = _
    unfold opE
    rw [if_neg hne]
    rfl
  rw [either_step]
  exact join_one L wOr 8 _ _ _ b _ hb hC.2
/-- Arguments of or, each in parentheses. -/
theorem whole_or (X : List Tok) (P : List (List Tok)) (e : Ex) (S : List Ex) (h : Whole X e) (hP : Wholes P S) (h2 : S ≠ []) : Whole (parT X ++ partsT wOr P) ⟨⟨8, [], [], 0, 0⟩, Fo.ofL (e :: S)⟩ := fun L i b hH hC => by
  obtain ⟨h3, h4⟩ := has_app hH
  rw [List.length_append, ← Nat.add_assoc] at hC ⊢
  have hlen : P.length ≤ L.length + 1 := by
    have := parts_len wOr P
    by_cases h0 : 0 < (partsT wOr P).length
    · have := has_le h4 h0; omega
    · omega
  have hE : Not L wAnd (i + (parT X).length) := by
    cases P with
    | nil => exact hC.1.2
    | cons X2 r2 => rw [partsT] at h4; exact not_at (has_cons h4).1 _ (by decide)
  rw [either_step]
  unfold joinR
  rw [par_both h L i b h3 hE]
  simp only []
  rw [parts_run L wOr _ (fun j => Not L wAnd j) b (fun j hj => not_at hj _ (by decide)) (fun X e i hw hH hn => par_both hw L i b hH hn) P S hP _ _ _ hlen h4 hC.2 hC.1.2]
  have hne : ¬ ([e] ++ S).length = 1 := by
    cases S with
    | nil => exact absurd rfl h2
    | cons s r => simp
  show (_, opE 8 ([e] ++ S)) = _
  unfold opE
  rw [if_neg hne]
  rfl
/-- What or, not and and bind. -/
theorem whole_binds (X Y Z : List Tok) (a c d : Ex) (hX : Whole X a) (hY : Whole Y c) (hZ : Whole Z d) :
    Whole (parT X ++ nmT wOr :: nmT wNot :: (parT Y ++ nmT wAnd :: parT Z)) ⟨⟨8, [], [], 0, 0⟩, Fo.ofL [a, ⟨⟨7, [], [], 0, 0⟩, Fo.ofL [notE c, d]⟩]⟩ := fun L i b hH hC => by
  obtain ⟨h1, h2⟩ := has_app hH
  obtain ⟨h3, h4⟩ := has_cons h2
  obtain ⟨h5, h6⟩ := has_cons h4
  obtain ⟨h7, h8⟩ := has_app h6
  obtain ⟨h9, h10⟩ := has_cons h8
  have el : i + (parT X ++ nmT wOr :: nmT wNot :: (parT Y ++ nmT wAnd :: parT Z)).length = i + (parT X).length + 1 + 1 + (parT Y).length + 1 + (parT Z).length := by
    simp only [List.length_append, List.length_cons]; omega
  rw [el] at hC ⊢
  have hlt := h3.1
  have hlt2 := h9.1
  have hL : ∃ m, L.length = m + 1 := ⟨L.length - 1, by omega⟩
  have hin : bothR L (eitherR L) ⟨i + (parT X).length + 1, 0, b⟩ = (⟨i + (parT X).length + 1 + 1 + (parT Y).length + 1 + (parT Z).length, 0, b⟩, ⟨⟨7, [], [], 0, 0⟩, Fo.ofL [notE c, d]⟩) := by
    unfold bothR joinR
    rw [neg_not L _ _ b (by rw [is_at h5]; decide), par_neg hY L _ b h7]
    simp only []
    rw [joinF, if_pos ⟨rfl, by rw [is_at h9]; decide⟩]
    rw [show Rs.go ⟨i + (parT X).length + 1 + 1 + (parT Y).length, 0, b⟩ = ⟨i + (parT X).length + 1 + 1 + (parT Y).length + 1, 0, b⟩ from rfl, par_neg hZ L _ b h10]
    rw [joinF_stop L wAnd _ _ _ (hC.1.2 b)]
    rfl
  rw [either_step]
  unfold joinR
  rw [par_both hX L i b h1 (not_at h3 _ (by decide))]
  simp only []
  rw [joinF, if_pos ⟨rfl, by rw [is_at h3]; decide⟩]
  rw [show Rs.go ⟨i + (parT X).length, 0, b⟩ = ⟨i + (parT X).length + 1, 0, b⟩ from rfl, hin]
  rw [joinF_stop L wOr _ _ _ (hC.2 b)]
  rfl
end Go.Proofs.YtjmipikahaoblaaGreatDoor.Syn
namespace Go.Proofs.YtjmipikahaoblaaGreatDoor.Lx
open Go.RowKit Go.Lib Go.Proofs.YtjmipikahaoblaaGreatDoor.Bas Go.Proofs.YtjmipikahaoblaaGreatDoor.Cal
set_option linter.unusedVariables false

theorem mark_cases (c : UInt8) (h : markB [c] = true) : c = 59 ∨ c = 58 ∨ c = 44 ∨ c = 40 ∨ c = 41 := by
  have h2 := of_decide_eq_true h
  simpa using h2
theorem first_markc (c : UInt8) (hc : markB [c] = true) (r : List UInt8) : firstV (c :: r) = (⟨4, [c], 0, 0⟩, 1, 0) := by
  rcases mark_cases c hc with rfl | rfl | rfl | rfl | rfl <;> rfl
theorem mark_not (c : UInt8) (hc : markB [c] = true) : ¬ (c.toNat = 32 ∨ c.toNat = 10) ∧ ¬ c.toNat = 35 := by
  rcases mark_cases c hc with rfl | rfl | rfl | rfl | rfl <;> decide
theorem scan_sp (c : UInt8) (hc : c.toNat = 32 ∨ c.toNat = 10) (l : List UInt8) (at' : Nat) (acc : List Tk) : scanL (c :: l) at' acc = scanL l (at' + 1) acc := by
  rw [scanL_step _ _ _ (by simp), show (c :: l).getD 0 0 = c from rfl, if_pos hc]
  rfl
theorem scan_mark1 (c : UInt8) (hc : markB [c] = true) (l : List UInt8) (at' : Nat) (acc : List Tk) (h : acc.length ≠ 4000) : scanL (c :: l) at' acc = scanL l (at' + 1) (acc ++ [⟨4, [c], 0, (at' : Int)⟩]) := by
  rw [scanL_step _ _ _ (by simp), show (c :: l).getD 0 0 = c from rfl, if_neg (mark_not c hc).1, if_neg (mark_not c hc).2, first_markc c hc l, if_neg (by simp), if_neg h, if_neg (by simp)]
  rfl
theorem scan_mark0 (c : UInt8) (hc : markB [c] = true) (l : List UInt8) (at' : Nat) (acc : List Tk) (h : acc.length = 4000) : scanL (c :: l) at' acc = ([], (at' : Int), 4) := by
  rw [scanL_step _ _ _ (by simp), show (c :: l).getD 0 0 = c from rfl, if_neg (mark_not c hc).1, if_neg (mark_not c hc).2, first_markc c hc l, if_neg (by simp), if_pos h]
theorem scan_marks (c : UInt8) (hc : markB [c] = true) (r : List UInt8) : ∀ (n at' : Nat) (acc : List Tk), acc.length + n ≤ 4000 → ∃ M : List Tk, M.length = n ∧ scanL (List.replicate n c ++ r) at' acc = scanL r (at' + n) (acc ++ M) := by
  intro n
  induction n with
  | zero => intro at' acc _; exact ⟨[], rfl, by simp⟩
  | succ n ih =>
    intro at' acc h
    obtain ⟨M, hM, he⟩ := ih (at' + 1) (acc ++ [⟨4, [c], 0, (at' : Int)⟩]) (by simp; omega)
    refine ⟨⟨4, [c], 0, (at' : Int)⟩ :: M, by simp [hM], ?_⟩
    rw [List.replicate_succ, List.cons_append, scan_mark1 c hc _ _ _ (by omega), he, List.append_assoc, Nat.add_assoc, Nat.add_comm 1 n]
    rfl
theorem scan_blanks (r : List UInt8) (acc : List Tk) : ∀ (n at' : Nat), scanL (List.replicate n 32 ++ r) at' acc = scanL r (at' + n) acc := by
  intro n
  induction n with
  | zero => intro at'; simp
  | succ n ih =>
    intro at'
    rw [List.replicate_succ, List.cons_append, scan_sp 32 (by decide), ih, Nat.add_assoc, Nat.add_comm 1 n]
theorem lim_full (c : UInt8) (hc : markB [c] = true) (n : Nat) (hn : n = 4000) : ∃ A : List Tk, A.length = n ∧ scanV (List.replicate n c) = (A, 0, 0) := by
  obtain ⟨M, hM, he⟩ := scan_marks c hc [] n 0 [] (by simp; omega)
  rw [List.append_nil] at he
  refine ⟨[] ++ M, by simpa using hM, ?_⟩
  unfold scanV
  rw [if_neg (by simp; omega), he]
  rfl
theorem lim_over (c : UInt8) (hc : markB [c] = true) (n : Nat) (hn : n = 4000) : scanV (List.replicate n c ++ [32] ++ [c]) = ([], (n : Int) + 1, 4) := by
  obtain ⟨M, hM, he⟩ := scan_marks c hc [32, c] n 0 [] (by simp; omega)
  unfold scanV
  rw [if_neg (by simp; omega), List.append_assoc, show [(32 : UInt8)] ++ [c] = [32, c] from rfl, he, scan_sp 32 (by decide), scan_mark0 c hc _ _ _ (by simp; omega)]
  simp
theorem lim_text (c : UInt8) (hc : markB [c] = true) (n : Nat) (hn : n = 16383) : scanV (List.replicate n 32 ++ [c]) = ([⟨4, [c], 0, (n : Int)⟩], 0, 0) := by
  unfold scanV
  rw [if_neg (by simp; omega), scan_blanks, scan_mark1 c hc _ _ _ (by simp)]
  simp [scanL_nil]
theorem lim_long (c : UInt8) (n : Nat) (hn : n = 16384) : scanV (List.replicate n 32 ++ [c]) = ([], 0, 4) := by
  unfold scanV
  rw [if_pos (by simp; omega)]
end Go.Proofs.YtjmipikahaoblaaGreatDoor.Lx
namespace Go.Proofs.YtjmipikahaoblaaGreatDoor.Lx
open Go.RowKit Go.Lib Go.Proofs.YtjmipikahaoblaaGreatDoor.Bas Go.Proofs.YtjmipikahaoblaaGreatDoor.Cal
set_option linter.unusedVariables false

/-- A token's text, if it has no error. -/
def wrS (t : Tk) : ByteArray := if wrE t = 0 then tx (wr t) else { data := #[] }
theorem wrS_bad (t : Tk) (e : Int) (h : wrE t = e) (h0 : e ≠ 0) : wrS t = { data := #[] } := by unfold wrS; rw [if_neg (by rw [h]; exact h0)]
theorem below_box (w : World) (o : Obj) : Below w.heap.size w (w.alloc o) := (Below.refl _ _).alloc (Nat.le_refl _) o
set_option maxHeartbeats 4000000 in
theorem text_name (u : List UInt8) (n p : Int) (w : World) (hu : u.length ≤ 9223372036854775807) : Calls Tryz.prog 110 #[tkV ⟨1, u, n, p⟩] w (StrOut (wrS ⟨1, u, n, p⟩) (wrE ⟨1, u, n, p⟩) w) := by
  have c1 := Lib.hid (fun w => isWord_any (tx u) w (by rw [tx_size]; exact hu))
  rw [bl_tx] at c1
  unfold tkV
  by_cases hn : n = 0
  · have t1 : (n == 0) = true := by simp [hn]
    have t2 : (n != 0) = false := by simp [hn]
    cases hw : wordB u with
    | true =>
      have hE : wrE ⟨1, u, n, p⟩ = 0 := by simp [wrE, hn, hw]
      have hS : wrS ⟨1, u, n, p⟩ = tx u := by unfold wrS; rw [if_pos hE]; rfl
      rw [hE, hS]
      rw [hw] at c1
      clear hw hn hE hS
      have B := Lib.hid (below_box w (.cells #[.int .i64 1, .string (tx u), .int .i64 n, .int .i64 p] 71))
      go_enter Tryz.func110, Tryz.ntmps110
      go_wp2_with fail
      refine (c1.out _).mono ?_; rintro e w' ⟨rfl, rfl⟩
      go_wp2_with fail
      go_ret2
      exact ⟨rfl, B.out⟩
    | false =>
      have hE : wrE ⟨1, u, n, p⟩ = 6 := by simp [wrE, hn, hw]
      rw [wrS_bad _ _ hE (by decide), hE]
      rw [hw] at c1
      clear hw hn hE
      have B := Lib.hid (below_box w (.cells #[.int .i64 1, .string (tx u), .int .i64 n, .int .i64 p] 71))
      go_enter Tryz.func110, Tryz.ntmps110
      go_wp2_with fail
      refine (c1.out _).mono ?_; rintro e w' ⟨rfl, rfl⟩
      go_wp2_with fail
      go_ret2
      exact ⟨rfl, B.out⟩
  · have t1 : (n == 0) = false := by simp [hn]
    have t2 : (n != 0) = true := by simp [hn]
    have hE : wrE ⟨1, u, n, p⟩ = 20 := by simp [wrE, hn]
    rw [wrS_bad _ _ hE (by decide), hE]
    clear hn hE
    have B := Lib.hid (below_box w (.cells #[.int .i64 1, .string (tx u), .int .i64 n, .int .i64 p] 71))
    go_enter Tryz.func110, Tryz.ntmps110
    go_wp2_with fail
    go_ret2
    exact ⟨rfl, B.out⟩
set_option maxHeartbeats 4000000 in
theorem text_mark (u : List UInt8) (n p : Int) (w : World) : Calls Tryz.prog 110 #[tkV ⟨4, u, n, p⟩] w (StrOut (wrS ⟨4, u, n, p⟩) (wrE ⟨4, u, n, p⟩) w) := by
  have c1 := Lib.hid (isMark_any (tx u))
  rw [bl_tx] at c1
  unfold tkV
  by_cases hn : n = 0
  · have t1 : (n == 0) = true := by simp [hn]
    have t2 : (n != 0) = false := by simp [hn]
    cases hw : markB u with
    | true =>
      have hE : wrE ⟨4, u, n, p⟩ = 0 := by simp [wrE, hn, hw]
      have hS : wrS ⟨4, u, n, p⟩ = tx u := by unfold wrS; rw [if_pos hE]; rfl
      rw [hE, hS]
      rw [hw] at c1
      clear hw hn hE hS
      have B := Lib.hid (below_box w (.cells #[.int .i64 4, .string (tx u), .int .i64 n, .int .i64 p] 71))
      go_enter Tryz.func110, Tryz.ntmps110
      go_wp2_with fail
      refine (c1.out _).mono ?_; rintro e w' ⟨rfl, rfl⟩
      go_wp2_with fail
      go_ret2
      exact ⟨rfl, B.out⟩
    | false =>
      have hE : wrE ⟨4, u, n, p⟩ = 5 := by simp [wrE, hn, hw]
      rw [wrS_bad _ _ hE (by decide), hE]
      rw [hw] at c1
      clear hw hn hE
      have B := Lib.hid (below_box w (.cells #[.int .i64 4, .string (tx u), .int .i64 n, .int .i64 p] 71))
      go_enter Tryz.func110, Tryz.ntmps110
      go_wp2_with fail
      refine (c1.out _).mono ?_; rintro e w' ⟨rfl, rfl⟩
      go_wp2_with fail
      go_ret2
      exact ⟨rfl, B.out⟩
  · have t1 : (n == 0) = false := by simp [hn]
    have t2 : (n != 0) = true := by simp [hn]
    have hE : wrE ⟨4, u, n, p⟩ = 20 := by simp [wrE, hn]
    rw [wrS_bad _ _ hE (by decide), hE]
    clear hn hE
    have B := Lib.hid (below_box w (.cells #[.int .i64 4, .string (tx u), .int .i64 n, .int .i64 p] 71))
    go_enter Tryz.func110, Tryz.ntmps110
    go_wp2_with fail
    go_ret2
    exact ⟨rfl, B.out⟩
end Go.Proofs.YtjmipikahaoblaaGreatDoor.Lx
