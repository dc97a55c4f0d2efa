/- The deck's Facts. -/
import Derived.Test.YtdehldcgakdobaaGreatDoorScMade4
import Derived.Test.YtdehldcgakdobaaGreatDoorDeck0
namespace Go.Proofs.YtdehldcgakdobaaGreatDoor.Sc
open Go.RowKit Go.Lib Go.Proofs.YtdehldcgakdobaaGreatDoor.Bas Go.Proofs.YtdehldcgakdobaaGreatDoor.Cal Go.Proofs.YtdehldcgakdobaaGreatDoor.Lx Go.Proofs.YtdehldcgakdobaaGreatDoor.Dk
set_option linter.unusedVariables false

/-- Is it in the domain? -/
def InD (a : At) (y : Int) : Prop := (domV a).1 ≤ y ∧ y ≤ (domV a).2
def FactsOut (L : List At) (B d : Nat) (v : Value) (l : List Int) (w : World) (e : Ending) (w' : World) : Prop :=
  ∃ u, ∃ F : List Int, e = .returned u ∧ F.length = L.length ∧ (∀ j, j < L.length → InD (at' L j) (F.getD j 0)) ∧ Row 3 .i64 w.heap.size w' u F ∧ Deck B w' d v l ∧ Kept d w w'
theorem OAt.keep2 {w w' : World} {b : Nat} {u : Value} (h : OAt w b u) (hb : Below (b + 1) w w') : OAt w' b u := by
  obtain ⟨h0, h1⟩ := h
  exact ⟨Nat.lt_of_lt_of_le h0 hb.size, by rw [hb.cell (p := ⟨b, 0, none⟩) (Nat.lt_succ_self _)]; exact h1⟩
theorem OAt.kept {d : Nat} {w w' : World} {b : Nat} {u : Value} (h : OAt w b u) (k : Kept d w w') (hb : b ≠ d) : OAt w' b u := by
  obtain ⟨h0, h1⟩ := h
  exact ⟨Nat.lt_of_lt_of_le h0 k.size, by rw [World.cell?_of_block (w := w) (a := ⟨b, 0, none⟩) (k.block b h0 hb)]; exact h1⟩
set_option maxRecDepth 8000 in
set_option maxHeartbeats 16000000 in
theorem dfacts_any (B d : Nat) (v : Value) (l : List Int) (w0 w : World) (u : Value) (L : List At) (h : AttsAt w0 u L) (hb : Below w0.heap.size w0 w) (hd0 : w0.heap.size ≤ d) (hE : schE L = 0) (hw : ∀ a ∈ L, AtWf a) (hD : Deck B w d v l) :
    Calls Tryz.prog 7 #[.pointer (some ⟨d, 0, none⟩), .agg #[u]] w (FactsOut L B d v l w) := by
  obtain ⟨i0, hi, hz0, hz1, hz2⟩ := info_parts info_int
  have hdl := hD.lt
  obtain ⟨hn1, hn6, hat⟩ := schE_ok L hE
  have hdom := Lib.hid (fun k (hk : k < L.length) => (⟨domV_bd _ (atE_ok L k (hat k hk)).2, domAt_in L k hE hk⟩ : _ ∧ _))
  have hA := Lib.hid (fun wr (hK : Kept d w wr) => h.below (hb.trans (hK.below hd0 hb.size)))
  have al := alloc_at w (.cells #[u] 25)
  have D0 := Lib.hid (hD.below al)
  have K0 := Lib.hid (Kept.of_below (d := d) al)
  have O0 := Lib.hid (OAt.new w u 25)
  obtain ⟨p, c, rfl, _, _⟩ := h
  have cD := Lib.hid (fun wr (k : Nat) hA hk => rdom_any (.slice p L.length c) wr L k hA (by omega) hw hk)
  obtain ⟨n, hn⟩ : ∃ n, L.length = n := ⟨_, rfl⟩
  have hn' := Lib.hid hn
  rw [hn] at hn1 hn6 hdom hA al D0 K0 O0 cD ⊢
  obtain ⟨b0, hb0⟩ : ∃ b, w.heap.size = b := ⟨_, rfl⟩
  have hbd : b0 ≠ d := by omega
  rw [hb0] at O0
  have hb0' := Lib.hid hb0
  clear hn hw hb hd0 hE hD hat al hb0
  go_enter Tryz.func7, Tryz.ntmps7
  go_upto_region 1 with fail
  rw [hb0'.out]
  generalize w.alloc (.cells #[.slice p n c] 25) = W0 at *
  go_wp2_with fail
  go_loopw [5, 6] (fun x5 x6 wr => ∃ (k : Nat) (F : List Int), x6 = .int .i64 k ∧ k ≤ n ∧ F.length = k ∧ Hid (∀ j, j < k → InD (at' L j) (F.getD j 0)) ∧ Hid (Row 3 .i64 (b0 + 1) wr x5 F) ∧ Hid (Deck B wr d v l) ∧ Hid (Kept d w wr) ∧ Hid (OAt wr b0 (.slice p n c))) (fun _ i _ => n - (RowKit.intOf i).toNat)
  case atStart => exact ⟨0, [], rfl, Nat.zero_le _, rfl, Lib.hid (fun j hj => absurd hj (Nat.not_lt_zero _)), Lib.hid (World.ownsRow_nil _ _ _ 1), D0, K0, O0⟩
  case round =>
    obtain ⟨k, F, rfl, hk, hF, hZ, hR, hD, hK, hO⟩ := hrel
    have hF' := Lib.hid hF
    clear hF
    have x0 := hO.out.2
    by_cases hlt : k < n
    · have hk64 : IntKind.i64.wrap ((k : Int) + 1) = (k : Int) + 1 := IntWalk.i64_in _ (by omega)
      obtain ⟨⟨d1, d2, d3⟩, hdm⟩ := hdom.out k hlt
      have cX := Lib.hid (cD.out wr k (hA.out wr hK.out) (by omega))
      rw [hdm] at cX
      have hin := Lib.hid (show ∀ y, (domV (at' L k)).1 ≤ y → y ≤ (domV (at' L k)).2 → InD (at' L k) y from fun y h1 h2 => ⟨h1, h2⟩)
      generalize domV (at' L k) = Dm at *
      obtain ⟨lo, hi2⟩ := Dm
      simp only at d1 d2 d3
      clear hdm
      go_wp2_with fail
      refine cX.out.mono ?_; rintro e W2 ⟨rfl, hB2⟩
      have K2 := Lib.hid (hK.out.trans (Kept.of_below hB2))
      have D2 := Lib.hid (hD.out.below hB2)
      have O2 := Lib.hid (hO.out.keep hB2)
      have R2 := Lib.hid (hR.out.keep hB2)
      clear hB2 cX hK hD hO hR x0
      obtain ⟨m, hm⟩ : ∃ m : Nat, hi2 - lo + 1 = m := ⟨(hi2 - lo + 1).toNat, by omega⟩
      have cN := Lib.hid (next_any B d v l W2 m (by omega) (by omega) D2.out)
      have e1 : IntKind.i64.wrap (hi2 - lo) = hi2 - lo := IntWalk.i64_in _ (by omega)
      have e2 : IntKind.i64.wrap (hi2 - lo + 1) = m := by rw [hm]; exact IntWalk.i64_in _ (by omega)
      have hm2 := Lib.hid hm
      have hlm : lo + m = hi2 + 1 := by omega
      have hlm' := Lib.hid hlm
      have hmpos : 0 < m := by omega
      have hm2000 : m ≤ 2000000001 := by omega
      clear hlm
      go_wp2_with fail
      refine cN.out.mono ?_; rintro e W3 ⟨x, hx, rfl, hD3, hK3⟩
      have hne : u5.ownBlock ≠ some d := fun e => by have := (R2.out.block d e).1; have := hb0'.out; omega
      have R3 := Lib.hid (hK3.row R2.out hne)
      have O3 := Lib.hid (O2.out.kept hK3 hbd)
      have K3 := Lib.hid (K2.out.trans hK3)
      have D3 := Lib.hid hD3
      have hxl : lo + x ≤ hi2 := by omega
      have hxl0 : lo ≤ lo + x := by omega
      have e3 : IntKind.i64.wrap (lo + x) = lo + x := IntWalk.i64_in _ (by omega)
      have cN5 := Lib.hid (next_any B d v l W3 5 (by omega) (by omega) D3.out)
      clear hD3 hK3 R2 O2 K2 D2 cN hm2 hm hlm' e1 e2
      go_wp2_with fail
      refine cN5.out.mono ?_; rintro e W4 ⟨s, hs5, rfl, hD4, hK4⟩
      have R4 := Lib.hid (hK4.row R3.out hne)
      have O4 := Lib.hid (O3.out.kept hK4 hbd)
      have K4 := Lib.hid (K3.out.trans hK4)
      have D4 := Lib.hid hD4
      clear hD4 hK4 R3 O3 K3 D3 cN5 e3
      obtain ⟨q0, hq0⟩ : ∃ q, lo + (x : Int) = q := ⟨_, rfl⟩
      rw [hq0] at hxl hxl0
      have hq0' := Lib.hid hq0
      clear hq0 hx
      have hs : s = 0 ∨ s = 1 ∨ s = 2 ∨ s = 3 ∨ s = 4 := by omega
      go_upto_block 2 with (fail)
      rw [hq0'.out]
      go_cut [9] (fun x9 wx => ∃ y : Int, x9 = .int .i64 y ∧ lo ≤ y ∧ y ≤ hi2 ∧ Hid (Deck B wx d v l) ∧ Hid (Kept d w wx) ∧ Hid (Row 3 .i64 (b0 + 1) wx u5 F) ∧ Hid (OAt wx b0 (.slice p n c)))
      case first =>
        rcases hs with rfl | rfl | rfl | rfl | rfl
        · go_wp2_with fail
          go_meet
          case rel => exact ⟨lo, rfl, Int.le_refl _, d1, D4, K4, R4, O4⟩
        · go_wp2_with fail
          go_meet
          case rel => exact ⟨hi2, rfl, d1, Int.le_refl _, D4, K4, R4, O4⟩
        · have cN12 := Lib.hid (next_any B d v l W4 12 (by omega) (by omega) D4.out)
          go_wp2_with fail
          refine cN12.out.mono ?_; rintro e W5 ⟨z, hz, rfl, hD5, hK5⟩
          have R5 := Lib.hid (hK5.row R4.out hne)
          have O5 := Lib.hid (O4.out.kept hK5 hbd)
          have K5 := Lib.hid (K4.out.trans hK5)
          have D5 := Lib.hid hD5
          have e4 : IntKind.i64.wrap ((z : Int) - 4) = (z : Int) - 4 := IntWalk.i64_in _ (by omega)
          clear hD5 hK5 R4 O4 K4 D4 cN12
          go_wp2_with fail
          all_goals
            go_meet
            case rel => exact ⟨_, rfl, by omega, by omega, D5, K5, R5, O5⟩
        · go_wp2_with fail
          go_meet
          case rel => exact ⟨q0, rfl, hxl0, hxl, D4, K4, R4, O4⟩
        · go_wp2_with fail
          go_meet
          case rel => exact ⟨q0, rfl, hxl0, hxl, D4, K4, R4, O4⟩
      case rest =>
        obtain ⟨y, rfl, hy1, hy2, hD6, hK6, hR6, hO6⟩ := hcut
        have hyd := hin.out y hy1 hy2
        have hyd' := Lib.hid hyd
        have hsz6 := hK6.out.size
        clear D4 K4 R4 O4 hs hs5 hq0' hxl hxl0 hin hyd
        go_wp2_with (at_builtin; refine wpList_append_one rfl (.tmp 48) (.tmp 50) 22 rfl (b0 + 1) 3 .i64 i0 8 Tryz.underlying22 hi hz0 hz1 hz2 (by omega) u5 F rfl hR6.out y rfl (by rw [hF'.out]; omega) (by have := hO6.out.1; omega) ?_; intro v' w4 hown hgrow; refine Hid.out ?_)
        refine Lib.hid ?_
        have D7 := Lib.hid (hD6.out.grown hgrow (fun g hg => by have := (hR6.out.block g hg).1; have := hb0'.out; omega))
        have K7 := Lib.hid (hK6.out.grown hgrow (fun g hg => by have := (hR6.out.block g hg).1; have := hb0'.out; omega))
        have O7 := Lib.hid (show OAt w4 b0 (.slice p n c) from hO6.out.keep2 ((Below.refl _ _).grown (B := b0 + 1) hgrow (by have := hO6.out.1; omega) (fun g hg => (hR6.out.block g hg).1)))
        have R7 := Lib.hid hown
        have Z7 := Lib.hid (show ∀ j, j < k + 1 → InD (at' L j) ((F ++ [y]).getD j 0) from fun j hj => by
          have hFl := hF'.out
          by_cases e : j = k
          · subst e
            rw [List.getD_eq_getElem?_getD, List.getElem?_append_right (by omega), hFl]
            simpa using hyd'.out
          · have := hZ.out j (by omega)
            rw [List.getD_eq_getElem?_getD, List.getElem?_append_left (by omega), ← List.getD_eq_getElem?_getD]
            exact this)
        clear hown hgrow hD6 hK6 hR6 hO6 hyd' hZ
        go_wp2_with fail
        go_roundw
        case rel => exact ⟨k + 1, F ++ [y], by go_num, by omega, by rw [List.length_append, hF'.out]; rfl, Z7, R7, D7, K7, O7⟩
        case measure => simp [RowKit.intOf]; omega
    · obtain rfl : k = n := by omega
      have hfin := Lib.hid (show FactsOut L B d v l w (.returned u5) wr from ⟨u5, F, rfl, by rw [hF'.out, hn'.out], by rw [hn'.out]; exact hZ.out, hR.out.mono (by rw [hb0'.out]; omega), hD.out, hK.out⟩)
      clear hZ hR hD hK
      go_wp2_with fail
      go_ret
      exact hfin.out
end Go.Proofs.YtdehldcgakdobaaGreatDoor.Sc
