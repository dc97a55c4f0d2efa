/- The reference's Domain. -/
import Derived.Test.YtdehldcgakdobaaGreatDoorScSch
namespace Go.Proofs.YtdehldcgakdobaaGreatDoor.Sc
open Go.RowKit Go.Lib Go.Proofs.YtdehldcgakdobaaGreatDoor.Bas Go.Proofs.YtdehldcgakdobaaGreatDoor.Cal Go.Proofs.YtdehldcgakdobaaGreatDoor.Lx
set_option linter.unusedVariables false

/-- Two numbers; nothing of before has changed. -/
def PairBe (r : Int × Int) (w : World) (e : Ending) (w' : World) : Prop := e = .returned (.tuple #[.int .i64 r.1, .int .i64 r.2]) ∧ Below w.heap.size w w'
theorem ret_p {a b : Int} {r : Int × Int} (h : r = (a, b)) : Ending.returned (.tuple #[.int .i64 a, .int .i64 b]) = .returned (.tuple #[.int .i64 r.1, .int .i64 r.2]) := by rw [h]
theorem wf_at (L : List At) (hw : ∀ a ∈ L, AtWf a) (k : Nat) (hk : k < L.length) : AtWf (at' L k) := hw _ (by rw [at_at L k hk]; exact List.getElem_mem _)
set_option maxRecDepth 8000 in
set_option maxHeartbeats 16000000 in
theorem rdom_any (u : Value) (w : World) (L : List At) (i : Int) (h : AttsAt w u L) (hl : L.length ≤ 9223372036854775807) (hw : ∀ a ∈ L, AtWf a) (hi : -9223372036854775808 ≤ i ∧ i ≤ 9223372036854775807) :
    Calls Tryz.prog 16 #[.agg #[u], .int .i64 i] w (PairBe (domAt L i) w) := by
  have B0 := Lib.hid (alloc_at w (.cells #[u] 25))
  have A0 := Lib.hid (h.below B0.out)
  have O0 := Lib.hid (OAt.new w u 25)
  obtain ⟨p, c, rfl, _, _⟩ := h
  have cS := Lib.hid (rschema_any _ (w.alloc (.cells #[.slice p L.length c] 25)) L A0.out hl hw)
  have hw' := Lib.hid hw
  obtain ⟨n, hn⟩ : ∃ n, L.length = n := ⟨_, rfl⟩
  have hn' := Lib.hid hn
  have hok := Lib.hid (schE_ok L)
  have hd := Lib.hid (show domAt L i = if schE L ≠ 0 ∨ i < 0 ∨ (n : Int) ≤ i then (0, -1) else domV (at' L i.toNat) by rw [← hn]; rfl)
  rw [hn] at hl B0 O0 A0 cS ⊢
  generalize hE : schE L = E at *
  generalize domAt L i = R at *
  clear hn hw hE
  obtain ⟨b0, hb0⟩ : ∃ b, w.heap.size = b := ⟨_, rfl⟩
  by_cases hE0 : E = 0
  · subst hE0
    by_cases hneg : i < 0
    · have hR := Lib.hid (hd.out.trans (if_pos (.inr (.inl hneg))))
      have t1 : decide (i < 0) = true := by simpa using hneg
      clear hd hok hneg
      go_enter Tryz.func16, Tryz.ntmps16
      go_wp2_with fail
      refine cS.out.mono ?_; rintro e W1 ⟨rfl, hB1⟩
      have B1 := Lib.hid (trans_b B0.out hB1)
      clear hB1
      go_wp2_with fail
      go_ret2
      exact ⟨ret_p hR.out, B1.out⟩
    · by_cases hge : (n : Int) ≤ i
      · have hR := Lib.hid (hd.out.trans (if_pos (.inr (.inr hge))))
        have t1 : decide (i < 0) = false := by simpa using hneg
        have t2 : decide ((n : Int) ≤ i) = true := by simpa using hge
        clear hd hok hneg hge
        rw [hb0] at O0
        go_enter Tryz.func16, Tryz.ntmps16
        go_wp2_with fail
        refine cS.out.mono ?_; rintro e W1 ⟨rfl, hB1⟩
        have B1 := Lib.hid (trans_b B0.out hB1)
        obtain ⟨_, x0⟩ := O0.out.keep hB1
        clear hB1 hb0
        go_wp2_with fail
        go_ret2
        exact ⟨ret_p hR.out, B1.out⟩
      · obtain ⟨k, rfl⟩ : ∃ k : Nat, i = k := ⟨i.toNat, by omega⟩
        have hR := Lib.hid (hd.out.trans (if_neg (by rintro (e | e | e); exact e rfl; exact hneg e; exact hge e)))
        rw [Int.toNat_natCast] at hR
        have t1 : decide ((k : Int) < 0) = false := by simp
        have t2 : decide ((n : Int) ≤ (k : Int)) = false := by simpa using hge
        have t3 : decide (n ≤ k) = false := by simp; omega
        have hlt : k < n := by omega
        have hat := (atE_ok L k ((hok.out rfl).2.2 k (by rw [hn'.out]; exact hlt))).2
        have hcase := Lib.hid (attE_ok _ hat)
        have hwf := wf_at L hw'.out k (by rw [hn'.out]; exact hlt)
        clear hd hok hneg hge hat
        rw [hb0] at O0
        go_enter Tryz.func16, Tryz.ntmps16
        go_wp2_with fail
        refine cS.out.mono ?_; rintro e W1 ⟨rfl, hB1⟩
        have B1 := Lib.hid (trans_b B0.out hB1)
        have x0 := (O0.out.keep hB1).2
        obtain ⟨p', c', hv, _, hp⟩ := A0.out.below hB1
        clear hB1 hb0 cS A0 O0
        obtain ⟨b, off, hpb, hc⟩ := hp (by rw [hn'.out]; omega)
        obtain rfl : p' = p := by cases hv; rfl
        subst hpb
        obtain ⟨y0, y1, ⟨uk, y2, hS⟩, y3, y4⟩ := hc k (by rw [hn'.out]; exact hlt)
        obtain ⟨pk, ck, rfl, _, _⟩ := hS
        clear hv hp hc
        have hws := hwf.1.2.1
        obtain ⟨nk, hnk⟩ : ∃ n, (at' L k).ws.length = n := ⟨_, rfl⟩
        have hV := Lib.hid (show domV (at' L k) = if (at' L k).k = 1 then (0, (nk : Int) - 1) else if (at' L k).k = 2 then ((at' L k).lo, (at' L k).hi) else (0, 1) by rw [← hnk]; rfl)
        rw [hnk] at hws y2
        have hnk' := Lib.hid hnk
        have B2 := Lib.hid (trans_b B1.out (alloc_at W1 (.cells #[.string (tx (at' L k).nm), .int .i64 (at' L k).k, .slice pk nk ck, .int .i64 (at' L k).lo, .int .i64 (at' L k).hi] 43)))
        have hkk : (at' L k).k = 1 ∨ (at' L k).k = 2 ∨ (at' L k).k = 3 := by rcases hcase.out with h | h | h; exact .inl h.1; exact .inr (.inl h.1); exact .inr (.inr h.1)
        clear hcase hwf hnk
        generalize (at' L k).k = kk at *
        generalize (at' L k).lo = lo at *
        generalize (at' L k).hi = hi at *
        generalize tx (at' L k).nm = nm at *
        generalize domV (at' L k) = D at *
        rcases hkk with rfl | rfl | rfl
        · have hV2 := Lib.hid (hV.out.trans (if_pos rfl))
          have hw1 : IntKind.i64.wrap ((nk : Int) - 1) = (nk : Int) - 1 := IntWalk.i64_in _ (by omega)
          clear hV
          go_wp2_with fail
          go_quiet (fail)
          go_wp2_with fail
          go_ret2
          exact ⟨ret_p (hR.out.trans hV2.out), below_drewN B2.out _⟩
        · have hV2 := Lib.hid (hV.out.trans ((if_neg (by decide)).trans (if_pos rfl)))
          clear hV
          go_wp2_with fail
          go_quiet (fail)
          go_wp2_with fail
          go_ret2
          exact ⟨ret_p (hR.out.trans hV2.out), below_drewN B2.out _⟩
        · have hV2 := Lib.hid (hV.out.trans ((if_neg (by decide)).trans (if_neg (by decide))))
          clear hV
          go_wp2_with fail
          go_ret2
          exact ⟨ret_p (hR.out.trans hV2.out), B2.out⟩
  · have hR := Lib.hid (hd.out.trans (if_pos (.inl hE0)))
    have t1 : (E == 0) = false := by simpa using hE0
    clear hd hok
    go_enter Tryz.func16, Tryz.ntmps16
    go_wp2_with fail
    refine cS.out.mono ?_; rintro e W1 ⟨rfl, hB1⟩
    have B1 := Lib.hid (trans_b B0.out hB1)
    clear hB1
    go_wp2_with fail
    go_ret2
    exact ⟨ret_p hR.out, B1.out⟩
end Go.Proofs.YtdehldcgakdobaaGreatDoor.Sc
