/- Overlap (both). (Written by gen_ov.py.) -/
import Derived.Test.YtlhgjhdeidhibaaDoorCalPer
namespace Go.Proofs.YtlhgjhdeidhibaaDoor.Cal
open Go.RowKit Go.Lib Go.Proofs.YtlhgjhdeidhibaaDoor.Bas
set_option linter.unusedVariables false

def OvOut (a b : Int) (r : Bool) (w : World) (e : Ending) (w' : World) : Prop := e = .returned (.tuple #[.agg #[.int .i64 a, .int .i64 b], .bool r]) ∧ Below w.heap.size w w'
theorem max_if (f g : Int) : (if f < g then g else f) = max f g := by split <;> omega
theorem min_if (u t : Int) : (if u < t then u else t) = min t u := by split <;> omega
/-- Four new blocks. -/
theorem four (w : World) (f t g u a b x y : Int) (W : World) (hW : W = (((w.alloc (.cells #[.int .i64 f, .int .i64 t] 46)).alloc (.cells #[.int .i64 g, .int .i64 u] 46)).alloc (.cells #[.int .i64 a, .int .i64 b] 46)).alloc (.cells #[.int .i64 x, .int .i64 y] 46)) :
    Below w.heap.size w W ∧ TwoAt W w.heap.size f t ∧ TwoAt W (w.heap.size + 1) g u ∧ TwoAt W (w.heap.size + 1 + 1) a b ∧ TwoAt W (w.heap.size + 1 + 1 + 1) x y := by
  subst hW
  have z1 : (w.alloc (.cells #[.int .i64 f, .int .i64 t] 46)).heap.size = w.heap.size + 1 := by simp
  have z2 : ((w.alloc (.cells #[.int .i64 f, .int .i64 t] 46)).alloc (.cells #[.int .i64 g, .int .i64 u] 46)).heap.size = w.heap.size + 1 + 1 := by simp
  have z3 : (((w.alloc (.cells #[.int .i64 f, .int .i64 t] 46)).alloc (.cells #[.int .i64 g, .int .i64 u] 46)).alloc (.cells #[.int .i64 a, .int .i64 b] 46)).heap.size = w.heap.size + 1 + 1 + 1 := by simp
  have d1 := TwoAt.new w f t
  have d2 := TwoAt.new (w.alloc (.cells #[.int .i64 f, .int .i64 t] 46)) g u
  have d3 := TwoAt.new ((w.alloc (.cells #[.int .i64 f, .int .i64 t] 46)).alloc (.cells #[.int .i64 g, .int .i64 u] 46)) a b
  have d4 := TwoAt.new (((w.alloc (.cells #[.int .i64 f, .int .i64 t] 46)).alloc (.cells #[.int .i64 g, .int .i64 u] 46)).alloc (.cells #[.int .i64 a, .int .i64 b] 46)) x y
  rw [z1] at d2
  rw [z2] at d3
  rw [z3] at d4
  exact ⟨trans_at (trans_at (trans_at (alloc1 _ _) (alloc1 _ _)) (alloc1 _ _)) (alloc1 _ _), ((d1.keep (alloc1 _ _)).keep (alloc1 _ _)).keep (alloc1 _ _), (d2.keep (alloc1 _ _)).keep (alloc1 _ _), d3.keep (alloc1 _ _), d4⟩

set_option maxHeartbeats 2000000 in
theorem overlap_0 (f t g u x y : Int) (w : World) (hx : Hid ((if f < g then g else f) = x)) (hy : Hid ((if u < t then u else t) = y)) (h1 : pvB f t = false) : Calls Tryd.prog 30 #[.agg #[.int .i64 f, .int .i64 t], .agg #[.int .i64 g, .int .i64 u]] w (OvOut 0 0 false w) := by
  have c1 := Lib.hid (fun w => valid_any f t w _ h1)
  clear h1
  go_enter Tryd.func30, Tryd.ntmps30
  go_upto_region 2 with (fail)
  rw [hx.out, hy.out]
  have q := Lib.hid (four w f t g u 0 0 x y _ rfl)
  have hge : w.heap.size ≤ w.heap.size + 1 + 1 := by omega
  have hge' := Lib.hid hge
  clear hge
  generalize (((w.alloc (.cells #[.int .i64 f, .int .i64 t] 46)).alloc (.cells #[.int .i64 g, .int .i64 u] 46)).alloc (.cells #[.int .i64 0, .int .i64 0] 46)).alloc (.cells #[.int .i64 x, .int .i64 y] 46) = W at q ⊢
  have b0 := Lib.hid q.out.1
  have D := Lib.hid q.out.2
  clear q
  generalize w.heap.size + 1 + 1 + 1 = p4 at D ⊢
  generalize w.heap.size + 1 + 1 = p3 at D hge' ⊢
  generalize w.heap.size + 1 = p2 at D ⊢
  generalize hp : w.heap.size = p1 at D ⊢
  clear hp
  obtain ⟨-, k0, k1, -⟩ := D.out.1
  go_wp2_with fail
  refine (c1.out _).mono ?_; rintro e W1 ⟨rfl, hB⟩
  have b1 := Lib.hid (trans_at b0.out hB)
  have D1 := Lib.hid (And.intro (D.out.2.1.keep hB) (And.intro (D.out.2.2.1.keep hB) (D.out.2.2.2.keep hB)))
  clear hB k0 k1 b0 D
  obtain ⟨-, k0, k1, -⟩ := D1.out.2.2
  obtain ⟨-, j0, j1, j2, j3⟩ := D1.out.2.1
  go_wp2_with fail
  try any_goals (exfalso; simp at *; omega; done)
  exact bodyPost_ret (v := .tuple #[.agg #[.int .i64 0, .int .i64 0], .bool false]) (by simp [results, Tryd.results30, go_sem, j0, j1]) rfl ⟨rfl, ((b1.out.setCell (p := ⟨p3, 0, none⟩) hge'.out _).setCell (p := ⟨p3, 1, none⟩) hge'.out _)⟩
set_option maxHeartbeats 2000000 in
theorem overlap_1 (f t g u x y : Int) (w : World) (hx : Hid ((if f < g then g else f) = x)) (hy : Hid ((if u < t then u else t) = y)) (h1 : pvB f t = true) (h2 : pvB g u = false) : Calls Tryd.prog 30 #[.agg #[.int .i64 f, .int .i64 t], .agg #[.int .i64 g, .int .i64 u]] w (OvOut 0 0 false w) := by
  have c1 := Lib.hid (fun w => valid_any f t w _ h1)
  have c2 := Lib.hid (fun w => valid_any g u w _ h2)
  clear h1 h2
  go_enter Tryd.func30, Tryd.ntmps30
  go_upto_region 2 with (fail)
  rw [hx.out, hy.out]
  have q := Lib.hid (four w f t g u 0 0 x y _ rfl)
  have hge : w.heap.size ≤ w.heap.size + 1 + 1 := by omega
  have hge' := Lib.hid hge
  clear hge
  generalize (((w.alloc (.cells #[.int .i64 f, .int .i64 t] 46)).alloc (.cells #[.int .i64 g, .int .i64 u] 46)).alloc (.cells #[.int .i64 0, .int .i64 0] 46)).alloc (.cells #[.int .i64 x, .int .i64 y] 46) = W at q ⊢
  have b0 := Lib.hid q.out.1
  have D := Lib.hid q.out.2
  clear q
  generalize w.heap.size + 1 + 1 + 1 = p4 at D ⊢
  generalize w.heap.size + 1 + 1 = p3 at D hge' ⊢
  generalize w.heap.size + 1 = p2 at D ⊢
  generalize hp : w.heap.size = p1 at D ⊢
  clear hp
  obtain ⟨-, k0, k1, -⟩ := D.out.1
  go_wp2_with fail
  refine (c1.out _).mono ?_; rintro e W1 ⟨rfl, hB⟩
  have b1 := Lib.hid (trans_at b0.out hB)
  have D1 := Lib.hid (And.intro (D.out.2.1.keep hB) (And.intro (D.out.2.2.1.keep hB) (D.out.2.2.2.keep hB)))
  clear hB k0 k1 b0 D
  obtain ⟨-, k0, k1, -⟩ := D1.out.1
  go_wp2_with fail
  refine (c2.out _).mono ?_; rintro e W2 ⟨rfl, hB⟩
  have b2 := Lib.hid (trans_at b1.out hB)
  have D2 := Lib.hid (And.intro (D1.out.1.keep hB) (And.intro (D1.out.2.1.keep hB) (D1.out.2.2.keep hB)))
  clear hB k0 k1 b1 D1
  obtain ⟨-, k0, k1, -⟩ := D2.out.2.2
  obtain ⟨-, j0, j1, j2, j3⟩ := D2.out.2.1
  go_wp2_with fail
  try any_goals (exfalso; simp at *; omega; done)
  exact bodyPost_ret (v := .tuple #[.agg #[.int .i64 0, .int .i64 0], .bool false]) (by simp [results, Tryd.results30, go_sem, j0, j1]) rfl ⟨rfl, ((b2.out.setCell (p := ⟨p3, 0, none⟩) hge'.out _).setCell (p := ⟨p3, 1, none⟩) hge'.out _)⟩
set_option maxHeartbeats 2000000 in
theorem overlap_2 (f t g u x y : Int) (w : World) (hx : Hid ((if f < g then g else f) = x)) (hy : Hid ((if u < t then u else t) = y)) (h1 : pvB f t = true) (h2 : pvB g u = true) (h3 : pvB x y = false) : Calls Tryd.prog 30 #[.agg #[.int .i64 f, .int .i64 t], .agg #[.int .i64 g, .int .i64 u]] w (OvOut 0 0 false w) := by
  have c1 := Lib.hid (fun w => valid_any f t w _ h1)
  have c2 := Lib.hid (fun w => valid_any g u w _ h2)
  have c3 := Lib.hid (fun w => valid_any x y w _ h3)
  clear h1 h2 h3
  go_enter Tryd.func30, Tryd.ntmps30
  go_upto_region 2 with (fail)
  rw [hx.out, hy.out]
  have q := Lib.hid (four w f t g u 0 0 x y _ rfl)
  have hge : w.heap.size ≤ w.heap.size + 1 + 1 := by omega
  have hge' := Lib.hid hge
  clear hge
  generalize (((w.alloc (.cells #[.int .i64 f, .int .i64 t] 46)).alloc (.cells #[.int .i64 g, .int .i64 u] 46)).alloc (.cells #[.int .i64 0, .int .i64 0] 46)).alloc (.cells #[.int .i64 x, .int .i64 y] 46) = W at q ⊢
  have b0 := Lib.hid q.out.1
  have D := Lib.hid q.out.2
  clear q
  generalize w.heap.size + 1 + 1 + 1 = p4 at D ⊢
  generalize w.heap.size + 1 + 1 = p3 at D hge' ⊢
  generalize w.heap.size + 1 = p2 at D ⊢
  generalize hp : w.heap.size = p1 at D ⊢
  clear hp
  obtain ⟨-, k0, k1, -⟩ := D.out.1
  go_wp2_with fail
  refine (c1.out _).mono ?_; rintro e W1 ⟨rfl, hB⟩
  have b1 := Lib.hid (trans_at b0.out hB)
  have D1 := Lib.hid (And.intro (D.out.2.1.keep hB) (And.intro (D.out.2.2.1.keep hB) (D.out.2.2.2.keep hB)))
  clear hB k0 k1 b0 D
  obtain ⟨-, k0, k1, -⟩ := D1.out.1
  go_wp2_with fail
  refine (c2.out _).mono ?_; rintro e W2 ⟨rfl, hB⟩
  have b2 := Lib.hid (trans_at b1.out hB)
  have D2 := Lib.hid (And.intro (D1.out.1.keep hB) (And.intro (D1.out.2.1.keep hB) (D1.out.2.2.keep hB)))
  clear hB k0 k1 b1 D1
  obtain ⟨-, k0, k1, -⟩ := D2.out.2.2
  go_wp2_with fail
  refine (c3.out _).mono ?_; rintro e W3 ⟨rfl, hB⟩
  have b3 := Lib.hid (trans_at b2.out hB)
  have D3 := Lib.hid (And.intro (D2.out.1.keep hB) (And.intro (D2.out.2.1.keep hB) (D2.out.2.2.keep hB)))
  clear hB k0 k1 b2 D2
  obtain ⟨-, k0, k1, -⟩ := D3.out.2.2
  obtain ⟨-, j0, j1, j2, j3⟩ := D3.out.2.1
  go_wp2_with fail
  try any_goals (exfalso; simp at *; omega; done)
  exact bodyPost_ret (v := .tuple #[.agg #[.int .i64 0, .int .i64 0], .bool false]) (by simp [results, Tryd.results30, go_sem, j0, j1]) rfl ⟨rfl, ((b3.out.setCell (p := ⟨p3, 0, none⟩) hge'.out _).setCell (p := ⟨p3, 1, none⟩) hge'.out _)⟩
set_option maxHeartbeats 2000000 in
theorem overlap_3 (f t g u x y : Int) (w : World) (hx : Hid ((if f < g then g else f) = x)) (hy : Hid ((if u < t then u else t) = y)) (h1 : pvB f t = true) (h2 : pvB g u = true) (h3 : pvB x y = true) : Calls Tryd.prog 30 #[.agg #[.int .i64 f, .int .i64 t], .agg #[.int .i64 g, .int .i64 u]] w (OvOut x y true w) := by
  have c1 := Lib.hid (fun w => valid_any f t w _ h1)
  have c2 := Lib.hid (fun w => valid_any g u w _ h2)
  have c3 := Lib.hid (fun w => valid_any x y w _ h3)
  clear h1 h2 h3
  go_enter Tryd.func30, Tryd.ntmps30
  go_upto_region 2 with (fail)
  rw [hx.out, hy.out]
  have q := Lib.hid (four w f t g u 0 0 x y _ rfl)
  have hge : w.heap.size ≤ w.heap.size + 1 + 1 := by omega
  have hge' := Lib.hid hge
  clear hge
  generalize (((w.alloc (.cells #[.int .i64 f, .int .i64 t] 46)).alloc (.cells #[.int .i64 g, .int .i64 u] 46)).alloc (.cells #[.int .i64 0, .int .i64 0] 46)).alloc (.cells #[.int .i64 x, .int .i64 y] 46) = W at q ⊢
  have b0 := Lib.hid q.out.1
  have D := Lib.hid q.out.2
  clear q
  generalize w.heap.size + 1 + 1 + 1 = p4 at D ⊢
  generalize w.heap.size + 1 + 1 = p3 at D hge' ⊢
  generalize w.heap.size + 1 = p2 at D ⊢
  generalize hp : w.heap.size = p1 at D ⊢
  clear hp
  obtain ⟨-, k0, k1, -⟩ := D.out.1
  go_wp2_with fail
  refine (c1.out _).mono ?_; rintro e W1 ⟨rfl, hB⟩
  have b1 := Lib.hid (trans_at b0.out hB)
  have D1 := Lib.hid (And.intro (D.out.2.1.keep hB) (And.intro (D.out.2.2.1.keep hB) (D.out.2.2.2.keep hB)))
  clear hB k0 k1 b0 D
  obtain ⟨-, k0, k1, -⟩ := D1.out.1
  go_wp2_with fail
  refine (c2.out _).mono ?_; rintro e W2 ⟨rfl, hB⟩
  have b2 := Lib.hid (trans_at b1.out hB)
  have D2 := Lib.hid (And.intro (D1.out.1.keep hB) (And.intro (D1.out.2.1.keep hB) (D1.out.2.2.keep hB)))
  clear hB k0 k1 b1 D1
  obtain ⟨-, k0, k1, -⟩ := D2.out.2.2
  go_wp2_with fail
  refine (c3.out _).mono ?_; rintro e W3 ⟨rfl, hB⟩
  have b3 := Lib.hid (trans_at b2.out hB)
  have D3 := Lib.hid (And.intro (D2.out.1.keep hB) (And.intro (D2.out.2.1.keep hB) (D2.out.2.2.keep hB)))
  clear hB k0 k1 b2 D2
  obtain ⟨-, k0, k1, -⟩ := D3.out.2.2
  obtain ⟨-, j0, j1, j2, j3⟩ := D3.out.2.1
  go_wp2_with fail
  try any_goals (exfalso; simp at *; omega; done)
  exact bodyPost_ret (v := .tuple #[.agg #[.int .i64 x, .int .i64 y], .bool true]) (by simp [results, Tryd.results30, go_sem, j0, j1]) rfl ⟨rfl, ((b3.out.setCell (p := ⟨p3, 0, none⟩) hge'.out _).setCell (p := ⟨p3, 1, none⟩) hge'.out _)⟩

set_option maxHeartbeats 2000000 in
theorem roverlap_0 (f t g u x y : Int) (w : World) (hx : Hid ((if f < g then g else f) = x)) (hy : Hid ((if u < t then u else t) = y)) (h1 : pvB f t = false) : Calls Tryd.prog 31 #[.agg #[.int .i64 f, .int .i64 t], .agg #[.int .i64 g, .int .i64 u]] w (OvOut 0 0 false w) := by
  have c1 := Lib.hid (fun w => rvalid_any f t w _ h1)
  clear h1
  go_enter Tryd.func31, Tryd.ntmps31
  go_upto_region 2 with (fail)
  rw [hx.out, hy.out]
  have q := Lib.hid (four w f t g u 0 0 x y _ rfl)
  have hge : w.heap.size ≤ w.heap.size + 1 + 1 := by omega
  have hge' := Lib.hid hge
  clear hge
  generalize (((w.alloc (.cells #[.int .i64 f, .int .i64 t] 46)).alloc (.cells #[.int .i64 g, .int .i64 u] 46)).alloc (.cells #[.int .i64 0, .int .i64 0] 46)).alloc (.cells #[.int .i64 x, .int .i64 y] 46) = W at q ⊢
  have b0 := Lib.hid q.out.1
  have D := Lib.hid q.out.2
  clear q
  generalize w.heap.size + 1 + 1 + 1 = p4 at D ⊢
  generalize w.heap.size + 1 + 1 = p3 at D hge' ⊢
  generalize w.heap.size + 1 = p2 at D ⊢
  generalize hp : w.heap.size = p1 at D ⊢
  clear hp
  obtain ⟨-, k0, k1, -⟩ := D.out.1
  go_wp2_with fail
  refine (c1.out _).mono ?_; rintro e W1 ⟨rfl, hB⟩
  have b1 := Lib.hid (trans_at b0.out hB)
  have D1 := Lib.hid (And.intro (D.out.2.1.keep hB) (And.intro (D.out.2.2.1.keep hB) (D.out.2.2.2.keep hB)))
  clear hB k0 k1 b0 D
  obtain ⟨-, k0, k1, -⟩ := D1.out.2.2
  obtain ⟨-, j0, j1, j2, j3⟩ := D1.out.2.1
  go_wp2_with fail
  try any_goals (exfalso; simp at *; omega; done)
  exact bodyPost_ret (v := .tuple #[.agg #[.int .i64 0, .int .i64 0], .bool false]) (by simp [results, Tryd.results31, go_sem, j0, j1]) rfl ⟨rfl, ((b1.out.setCell (p := ⟨p3, 0, none⟩) hge'.out _).setCell (p := ⟨p3, 1, none⟩) hge'.out _)⟩
set_option maxHeartbeats 2000000 in
theorem roverlap_1 (f t g u x y : Int) (w : World) (hx : Hid ((if f < g then g else f) = x)) (hy : Hid ((if u < t then u else t) = y)) (h1 : pvB f t = true) (h2 : pvB g u = false) : Calls Tryd.prog 31 #[.agg #[.int .i64 f, .int .i64 t], .agg #[.int .i64 g, .int .i64 u]] w (OvOut 0 0 false w) := by
  have c1 := Lib.hid (fun w => rvalid_any f t w _ h1)
  have c2 := Lib.hid (fun w => rvalid_any g u w _ h2)
  clear h1 h2
  go_enter Tryd.func31, Tryd.ntmps31
  go_upto_region 2 with (fail)
  rw [hx.out, hy.out]
  have q := Lib.hid (four w f t g u 0 0 x y _ rfl)
  have hge : w.heap.size ≤ w.heap.size + 1 + 1 := by omega
  have hge' := Lib.hid hge
  clear hge
  generalize (((w.alloc (.cells #[.int .i64 f, .int .i64 t] 46)).alloc (.cells #[.int .i64 g, .int .i64 u] 46)).alloc (.cells #[.int .i64 0, .int .i64 0] 46)).alloc (.cells #[.int .i64 x, .int .i64 y] 46) = W at q ⊢
  have b0 := Lib.hid q.out.1
  have D := Lib.hid q.out.2
  clear q
  generalize w.heap.size + 1 + 1 + 1 = p4 at D ⊢
  generalize w.heap.size + 1 + 1 = p3 at D hge' ⊢
  generalize w.heap.size + 1 = p2 at D ⊢
  generalize hp : w.heap.size = p1 at D ⊢
  clear hp
  obtain ⟨-, k0, k1, -⟩ := D.out.1
  go_wp2_with fail
  refine (c1.out _).mono ?_; rintro e W1 ⟨rfl, hB⟩
  have b1 := Lib.hid (trans_at b0.out hB)
  have D1 := Lib.hid (And.intro (D.out.2.1.keep hB) (And.intro (D.out.2.2.1.keep hB) (D.out.2.2.2.keep hB)))
  clear hB k0 k1 b0 D
  obtain ⟨-, k0, k1, -⟩ := D1.out.1
  go_wp2_with fail
  refine (c2.out _).mono ?_; rintro e W2 ⟨rfl, hB⟩
  have b2 := Lib.hid (trans_at b1.out hB)
  have D2 := Lib.hid (And.intro (D1.out.1.keep hB) (And.intro (D1.out.2.1.keep hB) (D1.out.2.2.keep hB)))
  clear hB k0 k1 b1 D1
  obtain ⟨-, k0, k1, -⟩ := D2.out.2.2
  obtain ⟨-, j0, j1, j2, j3⟩ := D2.out.2.1
  go_wp2_with fail
  try any_goals (exfalso; simp at *; omega; done)
  exact bodyPost_ret (v := .tuple #[.agg #[.int .i64 0, .int .i64 0], .bool false]) (by simp [results, Tryd.results31, go_sem, j0, j1]) rfl ⟨rfl, ((b2.out.setCell (p := ⟨p3, 0, none⟩) hge'.out _).setCell (p := ⟨p3, 1, none⟩) hge'.out _)⟩
set_option maxHeartbeats 2000000 in
theorem roverlap_2 (f t g u x y : Int) (w : World) (hx : Hid ((if f < g then g else f) = x)) (hy : Hid ((if u < t then u else t) = y)) (h1 : pvB f t = true) (h2 : pvB g u = true) (h3 : decide (y ≤ x) = true) : Calls Tryd.prog 31 #[.agg #[.int .i64 f, .int .i64 t], .agg #[.int .i64 g, .int .i64 u]] w (OvOut 0 0 false w) := by
  have c1 := Lib.hid (fun w => rvalid_any f t w _ h1)
  have c2 := Lib.hid (fun w => rvalid_any g u w _ h2)
  clear h1 h2
  go_enter Tryd.func31, Tryd.ntmps31
  go_upto_region 2 with (fail)
  rw [hx.out, hy.out]
  have q := Lib.hid (four w f t g u 0 0 x y _ rfl)
  have hge : w.heap.size ≤ w.heap.size + 1 + 1 := by omega
  have hge' := Lib.hid hge
  clear hge
  generalize (((w.alloc (.cells #[.int .i64 f, .int .i64 t] 46)).alloc (.cells #[.int .i64 g, .int .i64 u] 46)).alloc (.cells #[.int .i64 0, .int .i64 0] 46)).alloc (.cells #[.int .i64 x, .int .i64 y] 46) = W at q ⊢
  have b0 := Lib.hid q.out.1
  have D := Lib.hid q.out.2
  clear q
  generalize w.heap.size + 1 + 1 + 1 = p4 at D ⊢
  generalize w.heap.size + 1 + 1 = p3 at D hge' ⊢
  generalize w.heap.size + 1 = p2 at D ⊢
  generalize hp : w.heap.size = p1 at D ⊢
  clear hp
  obtain ⟨-, k0, k1, -⟩ := D.out.1
  go_wp2_with fail
  refine (c1.out _).mono ?_; rintro e W1 ⟨rfl, hB⟩
  have b1 := Lib.hid (trans_at b0.out hB)
  have D1 := Lib.hid (And.intro (D.out.2.1.keep hB) (And.intro (D.out.2.2.1.keep hB) (D.out.2.2.2.keep hB)))
  clear hB k0 k1 b0 D
  obtain ⟨-, k0, k1, -⟩ := D1.out.1
  go_wp2_with fail
  refine (c2.out _).mono ?_; rintro e W2 ⟨rfl, hB⟩
  have b2 := Lib.hid (trans_at b1.out hB)
  have D2 := Lib.hid (And.intro (D1.out.1.keep hB) (And.intro (D1.out.2.1.keep hB) (D1.out.2.2.keep hB)))
  clear hB k0 k1 b1 D1
  obtain ⟨-, k0, k1, -⟩ := D2.out.2.2
  obtain ⟨-, j0, j1, j2, j3⟩ := D2.out.2.1
  go_wp2_with fail
  try any_goals (exfalso; simp at *; omega; done)
  exact bodyPost_ret (v := .tuple #[.agg #[.int .i64 0, .int .i64 0], .bool false]) (by simp [results, Tryd.results31, go_sem, j0, j1]) rfl ⟨rfl, ((b2.out.setCell (p := ⟨p3, 0, none⟩) hge'.out _).setCell (p := ⟨p3, 1, none⟩) hge'.out _)⟩
set_option maxHeartbeats 2000000 in
theorem roverlap_3 (f t g u x y : Int) (w : World) (hx : Hid ((if f < g then g else f) = x)) (hy : Hid ((if u < t then u else t) = y)) (h1 : pvB f t = true) (h2 : pvB g u = true) (h3 : decide (y ≤ x) = false) : Calls Tryd.prog 31 #[.agg #[.int .i64 f, .int .i64 t], .agg #[.int .i64 g, .int .i64 u]] w (OvOut x y true w) := by
  have c1 := Lib.hid (fun w => rvalid_any f t w _ h1)
  have c2 := Lib.hid (fun w => rvalid_any g u w _ h2)
  clear h1 h2
  go_enter Tryd.func31, Tryd.ntmps31
  go_upto_region 2 with (fail)
  rw [hx.out, hy.out]
  have q := Lib.hid (four w f t g u 0 0 x y _ rfl)
  have hge : w.heap.size ≤ w.heap.size + 1 + 1 := by omega
  have hge' := Lib.hid hge
  clear hge
  generalize (((w.alloc (.cells #[.int .i64 f, .int .i64 t] 46)).alloc (.cells #[.int .i64 g, .int .i64 u] 46)).alloc (.cells #[.int .i64 0, .int .i64 0] 46)).alloc (.cells #[.int .i64 x, .int .i64 y] 46) = W at q ⊢
  have b0 := Lib.hid q.out.1
  have D := Lib.hid q.out.2
  clear q
  generalize w.heap.size + 1 + 1 + 1 = p4 at D ⊢
  generalize w.heap.size + 1 + 1 = p3 at D hge' ⊢
  generalize w.heap.size + 1 = p2 at D ⊢
  generalize hp : w.heap.size = p1 at D ⊢
  clear hp
  obtain ⟨-, k0, k1, -⟩ := D.out.1
  go_wp2_with fail
  refine (c1.out _).mono ?_; rintro e W1 ⟨rfl, hB⟩
  have b1 := Lib.hid (trans_at b0.out hB)
  have D1 := Lib.hid (And.intro (D.out.2.1.keep hB) (And.intro (D.out.2.2.1.keep hB) (D.out.2.2.2.keep hB)))
  clear hB k0 k1 b0 D
  obtain ⟨-, k0, k1, -⟩ := D1.out.1
  go_wp2_with fail
  refine (c2.out _).mono ?_; rintro e W2 ⟨rfl, hB⟩
  have b2 := Lib.hid (trans_at b1.out hB)
  have D2 := Lib.hid (And.intro (D1.out.1.keep hB) (And.intro (D1.out.2.1.keep hB) (D1.out.2.2.keep hB)))
  clear hB k0 k1 b1 D1
  obtain ⟨-, k0, k1, -⟩ := D2.out.2.2
  obtain ⟨-, j0, j1, j2, j3⟩ := D2.out.2.1
  go_wp2_with fail
  try any_goals (exfalso; simp at *; omega; done)
  exact bodyPost_ret (v := .tuple #[.agg #[.int .i64 x, .int .i64 y], .bool true]) (by simp [results, Tryd.results31, go_sem, j0, j1]) rfl ⟨rfl, ((b2.out.setCell (p := ⟨p3, 0, none⟩) hge'.out _).setCell (p := ⟨p3, 1, none⟩) hge'.out _)⟩

def ovB (f t g u : Int) : Bool := pvB f t && pvB g u && decide (max f g < min t u)
def ovV (f t g u : Int) : Int × Int := if ovB f t g u then (max f g, min t u) else (0, 0)
theorem ov_pv (f t g u : Int) (h1 : pvB f t = true) (h2 : pvB g u = true) : pvB (max f g) (min t u) = decide (max f g < min t u) := by
  have a := (pvB_iff _ _).1 h1
  have b := (pvB_iff _ _).1 h2
  unfold pvB
  rw [show decide (0 ≤ max f g) = true from decide_eq_true (by omega), show decide (min t u ≤ 876600) = true from decide_eq_true (by omega)]
  simp
theorem overlap_any (f t g u : Int) (w : World) : Calls Tryd.prog 30 #[.agg #[.int .i64 f, .int .i64 t], .agg #[.int .i64 g, .int .i64 u]] w (OvOut (ovV f t g u).1 (ovV f t g u).2 (ovB f t g u) w) := by
  have hx := Lib.hid (max_if f g)
  have hy := Lib.hid (min_if u t)
  cases h1 : pvB f t
  · have e : ovB f t g u = false := by unfold ovB; rw [h1]; rfl
    unfold ovV; rw [e]; exact overlap_0 f t g u _ _ w hx hy h1
  · cases h2 : pvB g u
    · have e : ovB f t g u = false := by unfold ovB; rw [h1, h2]; rfl
      unfold ovV; rw [e]; exact overlap_1 f t g u _ _ w hx hy h1 h2
    · by_cases h3 : max f g < min t u
      · have e : ovB f t g u = true := by unfold ovB; rw [h1, h2, decide_eq_true h3]; rfl
        unfold ovV; rw [e, if_pos rfl]; exact overlap_3 f t g u _ _ w hx hy h1 h2 (by rw [ov_pv f t g u h1 h2]; exact decide_eq_true h3)
      · have e : ovB f t g u = false := by unfold ovB; rw [h1, h2, decide_eq_false h3]; rfl
        unfold ovV; rw [e]; exact overlap_2 f t g u _ _ w hx hy h1 h2 (by rw [ov_pv f t g u h1 h2]; exact decide_eq_false h3)
theorem roverlap_any (f t g u : Int) (w : World) : Calls Tryd.prog 31 #[.agg #[.int .i64 f, .int .i64 t], .agg #[.int .i64 g, .int .i64 u]] w (OvOut (ovV f t g u).1 (ovV f t g u).2 (ovB f t g u) w) := by
  have hx := Lib.hid (max_if f g)
  have hy := Lib.hid (min_if u t)
  cases h1 : pvB f t
  · have e : ovB f t g u = false := by unfold ovB; rw [h1]; rfl
    unfold ovV; rw [e]; exact roverlap_0 f t g u _ _ w hx hy h1
  · cases h2 : pvB g u
    · have e : ovB f t g u = false := by unfold ovB; rw [h1, h2]; rfl
      unfold ovV; rw [e]; exact roverlap_1 f t g u _ _ w hx hy h1 h2
    · by_cases h3 : max f g < min t u
      · have e : ovB f t g u = true := by unfold ovB; rw [h1, h2, decide_eq_true h3]; rfl
        unfold ovV; rw [e, if_pos rfl]; exact roverlap_3 f t g u _ _ w hx hy h1 h2 (decide_eq_false (by omega))
      · have e : ovB f t g u = false := by unfold ovB; rw [h1, h2, decide_eq_false h3]; rfl
        unfold ovV; rw [e]; exact roverlap_2 f t g u _ _ w hx hy h1 h2 (decide_eq_true (by omega))
end Go.Proofs.YtlhgjhdeidhibaaDoor.Cal
