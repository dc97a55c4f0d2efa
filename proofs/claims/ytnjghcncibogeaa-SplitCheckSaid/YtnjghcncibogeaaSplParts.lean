/- The walk of SplitParts. -/
import Derived.Test.YtnjghcncibogeaaSplRef2
namespace Go.Proofs.Ytnjghcncibogeaa.Spl
open Go.RowKit Go.Lib Go.Proofs.Ytnjghcncibogeaa.Bas Go.Proofs.Ytnjghcncibogeaa.Dk
set_option linter.unusedVariables false

theorem parts_len (a : Int) (l : List Int) : (splitV a l).1.length ≤ 64 := by
  unfold splitV
  split
  · simp
  · split
    · simp
    · split
      · simp
      · split
        · simp
        · split
          · simp
          · simp [sg_length, parts]; omega

set_option maxRecDepth 100000 in
set_option maxHeartbeats 2000000 in
theorem splitParts (a : Int) (v : Value) (l : List Int) (vd : Value) (ld : List Int) (w : World) (ha : (Lit.int .i64 a).wf = true) (h : IntsAt w v l) (hl : l.length ≤ 9223372036854775807) (hw : ∀ x ∈ l, (Lit.int .i64 x).wf = true)
    (hd : IntsAt w vd ld) (hld : ld.length ≤ 9223372036854775807) (hwd : ∀ x ∈ ld, (Lit.int .i64 x).wf = true) :
    Calls Try.prog 3 #[.int .i64 a, v, vd] w (BoolBe true w) := by
  by_cases hbig : 100 < l.length
  · have haw := Lib.hid (awake_any w)
    obtain ⟨p, c, rfl, hp⟩ := h
    generalize l.length = n at *
    have t1 : decide (100 < (n : Int)) = true := by simp; omega
    clear hp hw hd hwd
    go_enter Try.func3, Try.ntmps3
    go_wp2_with fail
    refine haw.out.mono ?_; rintro e w' ⟨rfl, h5⟩
    have hfin : BoolBe true w (.returned (.bool true)) w' := ⟨rfl, h5⟩
    have hfin' := Lib.hid hfin
    clear hfin h5
    go_wp2_with fail
    go_ret
    exact hfin'.out
  · obtain ⟨ha0, ha1⟩ := Go.bounds_i64 ha
    have hok := cl_ok a
    have c0 := Lib.hid (rclamp_cl a)
    have c1 := split_any a v l w h hl ha0 ha1
    have c2 := fun w1 h1 => rsplit_any a v l w1 h1 hl ha0 ha1
    have c3 := fun w1 h1 => new_any vd ld w1 h1 hld fun x hx => Go.bounds_i64 (hwd x hx)
    have hlen := parts_len a l
    have hI := Lib.hid h
    have hId := Lib.hid hd
    obtain ⟨⟨P, E⟩, hPE⟩ : ∃ R, splitV a l = R := ⟨_, rfl⟩
    rw [hPE] at c1 c2 hlen
    generalize cl a = b at *
    obtain ⟨p, c, rfl, hp⟩ := h
    have t1 : decide (100 < (l.length : Int)) = false := by simp; omega
    have c1' := Lib.hid c1
    have c2' := Lib.hid c2
    have c3' := Lib.hid c3
    simp only at hlen
    clear hp hw hd hwd c1 c2 c3 hPE ha
    generalize l.length = n at *
    go_enter Try.func3, Try.ntmps3
    go_wp2_with fail
    refine c1'.out.mono ?_; rintro e w1 ⟨u1, rfl, hR1, hB1⟩
    simp only at hR1
    have c4 := Lib.hid (c2'.out w1 (hI.out.below hB1))
    have hB1' := Lib.hid hB1
    have hR1' := Lib.hid hR1
    clear hR1 hB1
    go_wp2_with fail
    refine c4.out.mono ?_; rintro e w2 ⟨u2, rfl, hR2, hB2⟩
    simp only at hR2
    have hB2' := Lib.hid (hB1'.out.trans (hB2.mono hB1'.out.size))
    have hP1 := Lib.hid (hR1'.out.keep hB2)
    have hP2 := Lib.hid hR2
    have c5 := Lib.hid (c3'.out w2 (hId.out.below hB2'.out))
    clear hR2 hB2
    go_wp2_with fail
    refine c5.out.mono ?_; rintro e w3 ⟨d, rfl, hD, hB3⟩
    have hB3' := Lib.hid (hB2'.out.trans (hB3.mono hB2'.out.size))
    have hP1a := Lib.hid (hP1.out.keep hB3)
    have hP2a := Lib.hid (hP2.out.keep hB3)
    have c6 := Lib.hid (weights_any w2.heap.size d vd ld w3 12 (by omega) (by omega) hD)
    have hge := hD.ge
    have hsz3 := hB3.size
    have hbl1 := Lib.hid hP1.out.block
    have hbl2 := Lib.hid hP2.out.block
    clear hD hB3
    go_wp2_with fail
    refine c6.out.mono ?_; rintro e w4 ⟨uw, L, rfl, hL0, hL12, hLx, hLW, hR4, hD4, hK4⟩
    have hB4' := Lib.hid (hB3'.out.trans (hK4.below (B := w.heap.size) (by have := hB2'.out.size; omega) hB3'.out.size))
    have hP1b := Lib.hid (hK4.row hP1a.out (fun e => by have := (hbl1.out d e).2; omega))
    have hP2b := Lib.hid (hK4.row hP2a.out (fun e => by have := (hbl2.out d e).2; omega))
    have hLx' : ∀ x ∈ L, x ≤ 17592186044416 := fun x hx => by have := hLx x hx; omega
    have hok2 := hok
    obtain ⟨hok3, hok4⟩ := hok
    have hV := splitV_ok b L hL0 (by omega) hok2 hLx' hLW
    have c7 := split_any b uw (ofN L) w4 hR4.ints (by rw [ofN_length]; omega) (by omega) (by omega)
    have c8 := fun w5 h5 => rsplit_any b uw (ofN L) w5 h5 (by rw [ofN_length]; omega) (by omega) (by omega)
    have hxl := parts_len b (ofN L)
    rw [hV] at c7 c8 hxl
    simp only at hxl
    have c7' := Lib.hid c7
    have c8' := Lib.hid c8
    have hR4' := Lib.hid hR4
    generalize sg b (parts b.natAbs L) = X at *
    clear hLx hLx' hLW hR4 hD4 hK4 c7 c8 hok2 hV
    go_wp2_with fail
    refine (c0.out _).mono ?_; rintro e w' ⟨rfl, rfl⟩
    go_wp2_with fail
    refine c7'.out.mono ?_; rintro e w5 ⟨u5, rfl, hR5, hB5⟩
    simp only at hR5
    have hB5' := Lib.hid (hB4'.out.trans (hB5.mono hB4'.out.size))
    have hP1c := Lib.hid (hP1b.out.keep hB5)
    have hP2c := Lib.hid (hP2b.out.keep hB5)
    have c9 := Lib.hid (c8'.out w5 ((hR4'.out.keep hB5).ints))
    have hX1 := Lib.hid hR5
    clear hR5 hB5
    go_wp2_with fail
    refine (c0.out _).mono ?_; rintro e w' ⟨rfl, rfl⟩
    go_wp2_with fail
    refine c9.out.mono ?_; rintro e w6 ⟨u6, rfl, hR6, hB6⟩
    simp only at hR6
    have hB6' := Lib.hid (hB5'.out.trans (hB6.mono hB5'.out.size))
    have s1 := same_any u1 u2 P P w6 (hP1c.out.keep hB6).ints (hP2c.out.keep hB6).ints (by omega) (by omega)
    have s2 : ∀ nd, Calls Try.prog 17 #[u5, u6] (w6.drewN nd) (BoolDr true (w6.drewN nd)) := fun nd => by
      have := same_any u5 u6 X X (w6.drewN nd) ((hX1.out.keep hB6).ints) hR6.ints (by omega) (by omega)
      rwa [decide_eq_true rfl] at this
    rw [decide_eq_true rfl] at s1
    have s1' := Lib.hid s1
    have s2' := Lib.hid s2
    clear hR6 hB6 s1 s2
    go_wp2_with fail
    refine s1'.out.mono ?_; rintro e w7 ⟨rfl, nd, rfl⟩
    have s3' := Lib.hid (s2'.out nd)
    go_wp2_with fail
    refine s3'.out.mono ?_; rintro e w8 ⟨rfl, nd2, rfl⟩
    have haw := Lib.hid (awake_any (w6.drewN (nd + nd2)))
    go_wp2_with fail
    refine haw.out.mono ?_; rintro e w9 ⟨rfl, h9⟩
    have hfin : BoolBe true w (.returned (.bool true)) w9 := ⟨rfl, (below_drewN hB6'.out (nd + nd2)).trans (h9.mono hB6'.out.size)⟩
    have hfin' := Lib.hid hfin
    clear hfin h9
    go_wp2_with fail
    go_ret
    exact hfin'.out
end Go.Proofs.Ytnjghcncibogeaa.Spl
