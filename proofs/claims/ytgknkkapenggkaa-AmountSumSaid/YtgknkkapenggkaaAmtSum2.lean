/- The walk of AmountSum. -/
import Derived.Test.YtgknkkapenggkaaAmtSum
import Derived.Below
import Derived.OwnWalk
import Derived.WalkSpells
import Derived.Laws.AppendOwnNone
import Derived.Deep.CutBlock
import Derived.Deep.DeepCutAuto
namespace Go.Proofs.Ytgknkkapenggkaa.Amt
open Go.RowKit Go.Lib
set_option linter.unusedVariables false

theorem info_int : (Try.prog.info? 3).map (fun i => (i.zero, i.size, i.bytes)) = some (some (.int .i64 0), 1, 8) := by kernel_rfl

theorem below_drewN {B : Nat} {a w : World} (h : Below B a w) (n : Nat) : Below B a (w.drewN n) := ⟨h.os, h.tape, h.output, h.size, h.block⟩

theorem clamp_cl (a : Int) (w : World) : Calls Try.prog 20 #[.int .i64 a] w fun e w' => e = .returned (.int .i64 (cl a)) ∧ w = w' := by
  obtain ⟨x, hx⟩ : ∃ x, cl a = x := ⟨_, rfl⟩
  have h1 : min (max a (-17592186044416)) 17592186044416 = x := by rw [← hx]; unfold cl; split <;> (try split) <;> omega
  rw [hx]
  clear hx
  go_enter Try.func20, Try.ntmps20
  go_wp2
  go_ret
  exact ⟨rfl, rfl⟩

/-- A row of the call's own, of ints. -/
def Row (B : Nat) (w : World) (v : Value) (L : List Int) : Prop := w.ownsRow B 3 1 v L.length (L.map (Value.int .i64))
theorem Row.shape {B : Nat} {w : World} {v : Value} {L : List Int} (h : Row B w v L) : ∃ p c, v = .slice p L.length c ∧ (0 < L.length → ∃ g, p = some ⟨g, 0, none⟩ ∧ B ≤ g ∧ ∀ j, j < L.length → w.cell? ⟨g, j, none⟩ = some (.int .i64 (L.getD j 0))) := by
  rcases h.2 with ⟨rfl, h0⟩ | ⟨g, cap, cur, rfl, hb, _⟩
  · exact ⟨none, 0, by rw [h0], fun h => by omega⟩
  · refine ⟨_, _, rfl, fun _ => ⟨g, rfl, hb, fun j hj => ?_⟩⟩
    rw [World.ownsRow.cellAt h j (by omega)]
    simp [List.getD_eq_getElem?_getD, List.getElem?_eq_getElem hj]
theorem Row.ints {B : Nat} {w : World} {v : Value} {L : List Int} (h : Row B w v L) : IntsAt w v L := by
  obtain ⟨p, c, rfl, hp⟩ := h.shape
  refine ⟨p, c, rfl, fun h0 => ?_⟩
  obtain ⟨g, rfl, _, hc⟩ := hp h0
  exact ⟨g, 0, rfl, fun j hj => by rw [Nat.zero_add]; exact hc j hj⟩
theorem Row.frozen {B g n c : Nat} {w : World} {L : List Int} (h : Row B w (.slice (some ⟨g, 0, none⟩) n c) L) (j : Nat) : w.frozen? ⟨g, j, none⟩ = false := by
  have hn : n = L.length := by
    obtain ⟨p, c', h1, _⟩ := h.shape
    simp only [Value.slice.injEq] at h1; exact h1.2.1
  subst hn
  exact World.ownsRow.frozenAt h j
theorem Row.store {B g n c : Nat} {w : World} {L : List Int} (h : Row B w (.slice (some ⟨g, 0, none⟩) n c) L) (j : Nat) (z : Int) :
    Row B (w.setCell ⟨g, j, none⟩ (.int .i64 z)) (.slice (some ⟨g, 0, none⟩) n c) (L.set j z) := by
  have hn : n = L.length := by
    obtain ⟨p, c', h1, _⟩ := h.shape
    simp only [Value.slice.injEq] at h1; exact h1.2.1
  subst hn
  unfold Row
  rw [List.length_set, List.map_set]
  exact (World.ownsRow.stored h j _).1

set_option maxHeartbeats 1000000 in
theorem lawsum (v : Value) (l : List Int) (a1 : Int) (a2 : Bool) (w : World) (h : IntsAt w v l) (b1 : -9223372036854775808 ≤ a1) (b2 : a1 ≤ 9223372036854775807) (hl : l.length ≤ 9223372036854775807) :
    Calls Try.prog 9 #[v, .int .i64 a1, .bool a2] w fun e w' => e = .returned (.bool true) ∧ Below w.heap.size w w' := by
  obtain ⟨i0, hi, hz0, hz1, hz2⟩ := info_parts info_int
  obtain ⟨p, c, rfl, hp⟩ := h
  obtain ⟨n, hn⟩ : ∃ n, l.length = n := ⟨_, rfl⟩
  rw [hn] at hp hl ⊢
  have hn' := Lib.hid hn
  have hp' := Lib.hid hp
  clear hn hp
  by_cases hbig : 300 < n
  · go_enter Try.func9, Try.ntmps9
    go_wp2_with fail
    refine (awake_any _).mono ?_; rintro e w' ⟨rfl, n1, rfl⟩
    go_wp2_with fail
    go_ret
    exact ⟨rfl, below_drewN (Below.refl _ _) _⟩
  · have n1 : n ≤ 300 := by omega
    have t0 : decide (300 < (n : Int)) = false := by simp; omega
    clear hbig hl
    have hmade := World.ownsRow_made (base := w.heap.size) (e := 3) (size := 1) w #[] 0 (Nat.le_refl _) (by unfold maxLen; omega) (by simp)
    go_enter Try.func9, Try.ntmps9
    go_upto_region 3 with fail
    go_cut [7] (fun x wx => Row w.heap.size wx x l ∧ Below w.heap.size w wx)
    case first =>
      by_cases hz : n = 0
      · subst hz
        have hl0 : l = [] := List.length_eq_zero_iff.1 hn'.out
        subst hl0
        cases p
        · go_wp2_with (at_builtin; refine wpList_append_own_none _ rfl (.tmp 17) (.tmp 18) 34 rfl w.heap.size 3 i0 1 Try.underlying34 hi _ 0 [] rfl hmade rfl ?_)
          go_meet
          case rel => exact ⟨hmade, (Below.refl _ _).alloc (Nat.le_refl _) _⟩
        · rename_i ad
          go_wp2_with fail
          go_meet
          case rel => exact ⟨hmade, (Below.refl _ _).alloc (Nat.le_refl _) _⟩
      · obtain ⟨b, off, rfl, hc⟩ := hp'.out (by omega)
        have hnews : ∀ j u, (l.map (Value.int .i64))[j]? = some u → (w.alloc (.cells #[] 3)).cell? ((⟨b, off, none⟩ : Addr).add j) = some u := by
          intro j u hu
          rw [List.getElem?_map] at hu
          obtain ⟨y, hy, rfl⟩ := Option.map_eq_some_iff.1 hu
          have hj : j < l.length := (List.getElem?_eq_some_iff.1 hy).1
          have := hc j (by rw [← hn'.out]; exact hj)
          rw [List.getD_eq_getElem?_getD, hy] at this
          rw [Go.WideShapes.add_plain]
          exact cell_later ((Below.refl _ _).alloc (Nat.le_refl _) _) this
        have hnews' := Lib.hid hnews
        clear hc hnews
        go_wp2_with (at_builtin; refine wpList_append_own _ rfl (.tmp 17) (.tmp 18) 34 rfl w.heap.size 3 i0 (.int .i64 0) 1 8 Try.underlying34 hi hz0 hz1 hz2 rfl (by decide) _ 0 [] rfl hmade ⟨b, off, none⟩ n c (l.map (.int .i64)) rfl (by rw [List.length_map, hn'.out]; omega) hnews'.out (by intro u hu; obtain ⟨y, _, rfl⟩ := List.mem_map.1 hu; rfl) (by unfold maxLen; omega) (by omega) (by simp) ?_; intro v' w1 hown hgrow _)
        go_meet
        case rel =>
          refine ⟨?_, ((Below.refl _ _).alloc (Nat.le_refl _) _).grown hgrow (by simp) (fun k hk => Nat.le_of_eq (Option.some.inj hk))⟩
          unfold Row; rw [hn'.out]; simpa using hown
    case rest =>
      obtain ⟨hrow, hbel⟩ := hcut
      rename_i x wc
      have hrow' := Lib.hid hrow
      have hbel' := Lib.hid hbel
      obtain ⟨q, cc, hx, hq⟩ := hrow.shape
      rw [hn'.out] at hx hq
      subst hx
      have hq' := Lib.hid hq
      clear hrow hbel hq hmade
      go_upto_block 0 with fail
      go_cut [8] (fun _ wx => ∃ L : List Int, Hid (Row w.heap.size wx (.slice q n cc) L) ∧ L.length = n ∧ Hid (Below w.heap.size w wx))
      case first =>
        cases a2
        · go_wp2_with fail
          go_loopw [8] (fun i wx => ∃ k : Nat, k ≤ n ∧ i = .int .i64 k ∧ ∃ L : List Int, Hid (Row w.heap.size wx (.slice q n cc) L) ∧ L.length = n ∧ Hid (Below w.heap.size w wx)) (fun i _ => n - (RowKit.intOf i).toNat)
          case atStart => exact ⟨0, Nat.zero_le _, rfl, l, hrow', hn'.out, hbel'⟩
          case round =>
            obtain ⟨k, hk, rfl, L, hR, hL, hB⟩ := hrel
            have hL' := Lib.hid hL
            clear hL
            by_cases hlt : k < n
            · obtain ⟨g, rfl, hbg, hxx⟩ := hq'.out (by omega)
              clear hxx
              obtain ⟨q2, c2, h1, h2⟩ := hR.out.shape
              simp only [Value.slice.injEq] at h1
              obtain ⟨rfl, hxx, rfl⟩ := h1
              clear hxx
              obtain ⟨g', h3, hxx, hcell⟩ := h2 (by rw [hL'.out]; omega)
              obtain rfl : g = g' := by simpa using h3
              have hck := hcell k (by rw [hL'.out]; exact hlt)
              have hfk := hR.out.frozen k
              obtain ⟨y, hy⟩ : ∃ y, L.getD k 0 = y := ⟨_, rfl⟩
              rw [hy] at hck
              have hst := Lib.hid (fun z => hR.out.store k z)
              clear h2 h3 hxx hcell hy
              have hbg' := Lib.hid hbg
              clear hbg
              go_wp2_with fail
              go_roundw
              case rel => exact ⟨k + 1, by omega, by go_num, L.set k _, Lib.hid (hst.out _), by rw [List.length_set]; exact hL'.out, Lib.hid (hB.out.setCell hbg'.out _)⟩
              case measure => simp [RowKit.intOf]; omega
            · obtain rfl : k = n := by omega
              go_wp2_with fail
              go_meet
              case rel => exact ⟨L, hR, hL'.out, hB⟩
        · go_wp2_with fail
          go_loop [8] (fun i => i = .int .i64 0) (fun _ => 0)
          case atStart => rfl
          case round =>
            subst hrel
            by_cases hlt : 0 < n
            · go_wp2_with fail
              go_meet
              case rel => exact ⟨l, hrow', hn'.out, hbel'⟩
            · go_wp2_with fail
              go_meet
              case rel => exact ⟨l, hrow', hn'.out, hbel'⟩
      case rest =>
        obtain ⟨L, hR, hL, hB⟩ := hcut
        have hI := Lib.hid hR.out.ints
        obtain ⟨N, E, hN⟩ : ∃ N E, sumV L = (N, E) := ⟨_, _, rfl⟩
        have c1 := Lib.hid (fun w h => sum_any (.slice q n cc) L w h N E hN (by omega))
        have c2 := Lib.hid (fun w h => rsum_any (.slice q n cc) L w h N E hN (by omega))
        have hL' := Lib.hid hL
        clear hL hN
        go_wp2_with fail
        refine (c1.out _ hI.out).mono ?_; rintro e w' ⟨rfl, rfl⟩
        go_wp2_with fail
        refine (c2.out _ hI.out).mono ?_; rintro e w' ⟨rfl, rfl⟩
        go_wp2_with fail
        refine (clamp_cl a1 _).mono ?_; rintro e w' ⟨rfl, rfl⟩
        go_wp2_with fail
        refine (rclamp_cl a1 _).mono ?_; rintro e w' ⟨rfl, rfl⟩
        go_wp2_with fail
        refine (valid_var a1 _ rfl _).mono ?_; rintro e w' ⟨rfl, rfl⟩
        go_wp2_with fail
        refine (rvalid_var a1 _ rfl _).mono ?_; rintro e w' ⟨rfl, rfl⟩
        go_wp2_with fail
        refine (awake_any _).mono ?_; rintro e w' ⟨rfl, nn, rfl⟩
        go_wp2_with fail
        go_ret
        exact ⟨rfl, below_drewN hB.out _⟩
end Go.Proofs.Ytgknkkapenggkaa.Amt
