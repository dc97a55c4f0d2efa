/- What is added and subtracted again: the plain mathematics of ExchangeDifference. -/
import Derived.Test.YtcdfedkcefhdiaaExcShuf
namespace Go.Proofs.Ytcdfedkcefhdiaa.Exc
open Go.RowKit Go.Lib Go.Proofs.Ytcdfedkcefhdiaa.Bas Go.Proofs.Ytcdfedkcefhdiaa.Spl Go.Proofs.Ytcdfedkcefhdiaa.Dk
set_option linter.unusedVariables false

theorem norm_gen (K : List Cs) (h : ∀ p ∈ K, 0 ≤ p.c ∧ p.c ≤ 15 ∧ okI p.a) (hl : K.length ≤ 65536) (hok : okK K 16) : normV K = (balK K 16, 0) := by
  have hce : fst0 (ce K) K.length = 0 := (fst0_zero _ _).2 fun i hi => by
    have := h K[i] (List.getElem_mem _)
    unfold ce
    rw [cs_at K i hi, if_neg (by omega), if_neg]
    exact fun g => g this.2.2
  unfold normV
  rw [if_neg (by omega), if_neg (by simp [hce]), if_pos hok]
theorem okC_okI {p : Cs} (h : okC p) : okI p.a := by unfold okC at h; unfold okI; omega
theorem negC_okC {p : Cs} (s : Int) (hs : s = 1 ∨ s = -1) (h : okC p) : okC (negC s p) := by
  rw [negC_yes s p (okC_okI h)]
  unfold okC at *
  rcases hs with rfl | rfl
  · exact ⟨h.1, h.2.1, by show -1073741824 ≤ 1 * p.a; omega, by show 1 * p.a ≤ 1073741824; omega⟩
  · exact ⟨h.1, h.2.1, by show -1073741824 ≤ -1 * p.a; omega, by show -1 * p.a ≤ 1073741824; omega⟩
theorem joinV_okC {A B : List Cs} (s : Int) (hs : s = 1 ∨ s = -1) (hA : ∀ p ∈ A, okC p) (hB : ∀ p ∈ B, okC p) : ∀ p ∈ joinV A B s, okC p := by
  intro p hp
  unfold joinV at hp
  rcases List.mem_append.1 hp with h | h
  · exact hA p h
  · obtain ⟨q, hq, rfl⟩ := List.mem_map.1 h
    exact negC_okC s hs (hB q hq)
theorem joinV_length (A B : List Cs) (s : Int) : (joinV A B s).length = A.length + B.length := by simp [joinV]
theorem totC_map (B : List Cs) (s c : Int) (hs : s = 1 ∨ s = -1) (hB : ∀ p ∈ B, okC p) : totC (B.map (negC s)) c = s * totC B c := by
  induction B with
  | nil => simp [totC_nil]
  | cons x r ih =>
    rw [List.map_cons, totC_cons, totC_cons, ih fun p hp => hB p (by simp [hp]), negC_yes s x (okC_okI (hB x (by simp)))]
    show (if x.c = c then s * x.a else 0) + s * totC r c = _
    rcases hs with rfl | rfl <;> split <;> omega
theorem norm_sum (A B : List Cs) (hA : ∀ p ∈ A, okC p) (hB : ∀ p ∈ B, okC p) (ha : A.length ≤ 8) (hb : B.length ≤ 8) : normV (joinV A B 1) = (balK (joinV A B 1) 16, 0) :=
  norm_made _ (joinV_okC 1 (.inl rfl) hA hB) (by rw [joinV_length]; omega)
theorem norm_back (A B : List Cs) (hA : ∀ p ∈ A, okC p) (hB : ∀ p ∈ B, okC p) (ha : A.length ≤ 8) (hb : B.length ≤ 8) : normV (joinV (balK (joinV A B 1) 16) B (-1)) = (balK A 16, 0) := by
  have hJ := joinV_okC 1 (.inl rfl) hA hB
  have hlen := balK_length (joinV A B 1) 16
  have hT : ∀ c : Nat, c < 16 → totC (joinV (balK (joinV A B 1) 16) B (-1)) c = totC A c := fun c hc => by
    show totC (balK (joinV A B 1) 16 ++ B.map (negC (-1))) (c : Int) = _
    rw [totC_append, totC_balK, if_pos hc, totC_map B (-1) c (.inr rfl) hB]
    show totC (A ++ B.map (negC 1)) (c : Int) + _ = _
    rw [totC_append, totC_map B 1 c (.inl rfl) hB]
    omega
  rw [norm_gen, balK_congr _ A 16 hT]
  · intro p hp
    unfold joinV at hp
    rcases List.mem_append.1 hp with h | h
    · obtain ⟨c, hc, rfl, _⟩ := balK_mem _ _ _ h
      have := totC_bd (joinV A B 1) c hJ
      rw [joinV_length] at this
      refine ⟨Int.natCast_nonneg _, (by show (c : Int) ≤ 15; omega), ?_⟩
      show okI (totC (joinV A B 1) c)
      unfold okI; omega
    · obtain ⟨q, hq, rfl⟩ := List.mem_map.1 h
      have := negC_okC (-1) (.inr rfl) (hB q hq)
      have h2 := okC_okI this
      unfold okC at this
      exact ⟨this.1, by omega, h2⟩
  · rw [joinV_length]; omega
  · intro c hc
    rw [hT c hc]
    have := totC_bd A c hA
    unfold okI; omega
theorem norm_only (A : List Cs) (hA : ∀ p ∈ A, okC p) (ha : A.length ≤ 8) : normV A = (balK A 16, 0) := norm_made A hA (by omega)
/-- The function f is Add (s = 1), Sub (s = -1). -/
def JoinOf (s : Int) (f : Nat) : Prop := ∀ (v u : Value) (p q : List Cs) (w : World), CashAt w v p → CashAt w u q → p.length ≤ 100 → q.length ≤ 100 →
  Calls Try.prog f #[v, u] w (CsOut (normV (joinV p q s)).1 (normV (joinV p q s)).2 w)
end Go.Proofs.Ytcdfedkcefhdiaa.Exc
