/- The reference's FormatFacts. -/
import Derived.Test.YtdehldcgakdobaaGreatDoorScFacts
import Derived.Test.YtdehldcgakdobaaGreatDoorDec
namespace Go.Proofs.YtdehldcgakdobaaGreatDoor.Sc
open Go.RowKit Go.Lib Go.Proofs.YtdehldcgakdobaaGreatDoor.Bas Go.Proofs.YtdehldcgakdobaaGreatDoor.Cal Go.Proofs.YtdehldcgakdobaaGreatDoor.Lx
set_option linter.unusedVariables false

/-- A text and an error; nothing of before has changed. -/
def TextBe (r : List UInt8 × Int) (w : World) (e : Ending) (w' : World) : Prop := e = .returned (.tuple #[.string (tx r.1), .int .i64 r.2]) ∧ Below w.heap.size w w'
theorem facts_ok (L : List At) (f : List Int) (h : factsB L f = true) : schE L = 0 ∧ f.length = L.length ∧ ∀ i, i < L.length → (domV (at' L i)).1 ≤ f.getD i 0 ∧ f.getD i 0 ≤ (domV (at' L i)).2 := of_decide_eq_true h
theorem name_len {l : List UInt8} (h : nameB l = true) : l.length ≤ 16 := by
  unfold nameB at h
  simp only [Bool.and_eq_true] at h
  exact (of_decide_eq_true h.1).2.1
theorem oneT_len (a : At) (n : Int) (h : nameB a.nm = true) (hv : (valT a n).length ≤ 30) : (oneT a n).length ≤ 47 := by
  have := name_len h
  unfold oneT
  simp; omega
/-- A value of the domain has a short text. -/
theorem valT_len (a : At) (n : Int) (h : attE a = 0) (h1 : (domV a).1 ≤ n) (h2 : n ≤ (domV a).2) : (valT a n).length ≤ 30 := by
  have hb := domV_bd a h
  unfold valT
  split
  · rename_i hk
    rcases attE_ok a h with ⟨_, _, _, h4, h5, h6, _⟩ | ⟨hk2, _⟩ | ⟨hk2, _⟩
    · have hd : domV a = (0, (a.ws.length : Int) - 1) := by unfold domV; rw [if_pos hk]
      rw [hd] at h1 h2
      simp only at h1 h2
      have := name_len ((of_decide_eq_true h6) n.toNat (by omega))
      omega
    · omega
    · omega
  · split
    · have := itoa_length_le n (by omega) (by omega); omega
    · split <;> simp
theorem fmtP_len (L : List At) (f : List Int) (h : factsB L f = true) : ∀ k, k ≤ L.length → (fmtP L f k).length ≤ 50 * k := by
  obtain ⟨h0, h1, h2⟩ := facts_ok L f h
  have hat := (schE_ok L h0).2.2
  intro k
  induction k with
  | zero => intro _; simp [fmtP]
  | succ k ih =>
    intro hk
    have a := ih (by omega)
    have b := oneT_len (at' L k) (f.getD k 0) (atE_ok L k (hat k (by omega))).1 (valT_len _ _ (atE_ok L k (hat k (by omega))).2 (h2 k (by omega)).1 (h2 k (by omega)).2)
    have c : (sepT k).length ≤ 2 := by unfold sepT; split <;> simp
    unfold fmtP
    rw [List.length_append, List.length_append]
    omega
set_option maxRecDepth 8000 in
set_option maxHeartbeats 8000000 in
theorem rfmt_bad (u : Value) (w : World) (L : List At) (vf : Value) (f : List Int) (h : AttsAt w u L) (hl : L.length ≤ 9223372036854775807) (hw : ∀ a ∈ L, AtWf a) (hI : IntsAt w vf f) (hlf : f.length ≤ 9223372036854775807) (hb : factsB L f = false) :
    Calls Tryz.prog 13 #[.agg #[u], vf] w (TextBe (fmtF L f) w) := by
  have B0 := Lib.hid (alloc_at w (.cells #[u] 25))
  have A0 := Lib.hid (h.below B0.out)
  have O0 := Lib.hid (OAt.new w u 25)
  have I0 := Lib.hid (hI.below B0.out)
  obtain ⟨p, c, rfl, _, _⟩ := h
  obtain ⟨pf, cf, rfl, hpf⟩ := hI
  have cS := Lib.hid (rschema_any _ (w.alloc (.cells #[.slice p L.length c] 25)) L A0.out hl hw)
  have cF := Lib.hid (fun W hA hI => rfacts_any (.slice p L.length c) W L (.slice pf f.length cf) f hA hl hw hI hlf)
  rw [hb] at cF
  have hE1 := Lib.hid (fun (h : schE L ≠ 0) => show fmtF L f = ([], schE L) by unfold fmtF; rw [if_pos h])
  have hE2 := Lib.hid (fun (h : schE L = 0) => show fmtF L f = ([], 16) by unfold fmtF; rw [if_neg (by rw [h]; simp), if_pos hb])
  have hem := Lib.hid (show ({ data := #[] } : ByteArray) = tx [] from rfl)
  generalize fmtF L f = R at *
  generalize schE L = E at *
  generalize L.length = n at *
  generalize f.length = nf at *
  clear hw hpf hb
  obtain ⟨b0, hb0⟩ : ∃ b, w.heap.size = b := ⟨_, rfl⟩
  by_cases hE0 : E = 0
  · subst hE0
    have hR := Lib.hid (hE2.out rfl)
    rw [hb0] at O0
    clear hE1 hE2
    go_enter Tryz.func13, Tryz.ntmps13
    go_wp2_with fail
    refine cS.out.mono ?_; rintro e W1 ⟨rfl, hB1⟩
    have B1 := Lib.hid (trans_b B0.out hB1)
    have x0 := (O0.out.keep hB1).2
    have cX := Lib.hid (cF.out W1 (A0.out.below hB1) (I0.out.below hB1))
    clear hB1 hb0
    go_wp2_with fail
    refine cX.out.mono ?_; rintro e W2 ⟨rfl, hB2⟩
    have B2 := Lib.hid (trans_b B1.out hB2)
    clear hB2
    go_wp2_with fail
    go_ret2
    exact ⟨by rw [hR.out]; rfl, B2.out⟩
  · have hR := Lib.hid (hE1.out hE0)
    have t1 : (E == 0) = false := by simpa using hE0
    clear hE1 hE2
    go_enter Tryz.func13, Tryz.ntmps13
    go_wp2_with fail
    refine cS.out.mono ?_; rintro e W1 ⟨rfl, hB1⟩
    have B1 := Lib.hid (trans_b B0.out hB1)
    clear hB1
    go_wp2_with fail
    go_ret2
    exact ⟨by rw [hR.out]; rfl, B1.out⟩
end Go.Proofs.YtdehldcgakdobaaGreatDoor.Sc
