/- The reference's Joined; Normalize of the reference for all lists. -/
import Derived.Test.YtcdfedkcefhdiaaExcNorm
import Derived.Test.YtcdfedkcefhdiaaExcCell
namespace Go.Proofs.Ytcdfedkcefhdiaa.Exc
open Go.RowKit Go.Lib Go.Proofs.Ytcdfedkcefhdiaa.Bas Go.Proofs.Ytcdfedkcefhdiaa.Spl
set_option linter.unusedVariables false

theorem norm_any (v : Value) (l : List Cs) (w : World) (h : CashAt w v l) (hm : l.length ≤ 9223372036854775807) : Calls Try.prog 20 #[v] w (CsOut (normV l).1 (normV l).2 w) := by
  by_cases hl : 65536 < l.length
  · have e : normV l = ([], 4) := by unfold normV; rw [if_pos hl]
    rw [e]; exact norm_long v l w h hl hm
  · exact norm_short v l w h (by omega)

/-- An amount times s, if it is one. -/
def negC (s : Int) (x : Cs) : Cs := if okI x.a then ⟨x.c, s * x.a⟩ else x
/-- Joined. -/
def joinV (p q : List Cs) (s : Int) : List Cs := p ++ q.map (negC s)
theorem joinV_take (p q : List Cs) (s : Int) (k : Nat) (hk : k < q.length) : joinV p (q.take (k + 1)) s = joinV p (q.take k) s ++ [negC s (cs q k)] := by
  unfold joinV
  rw [List.take_succ_eq_append_getElem hk, List.map_append, List.append_assoc, cs_at q k hk]; rfl

theorem negC_yes (s : Int) (x : Cs) (h : okI x.a) : negC s x = ⟨x.c, s * x.a⟩ := if_pos h
theorem negC_no (s : Int) (x : Cs) (h : ¬ okI x.a) : negC s x = x := if_neg h
theorem crow_lit0 (B : Nat) (w : World) (hB : B ≤ w.heap.size) : CRow B (w.alloc (.cells #[] 40)) (.slice (some ⟨w.heap.size, 0, none⟩) 0 0) [] := by
  have := World.ownsRow_lit (e := 40) (size := 2) (base := B) w #[] 0 hB (by unfold maxLen; omega) (by simp)
  unfold CRow; simpa [flat2] using this

def RowOut (L : List Cs) (w : World) (e : Ending) (w' : World) : Prop := ∃ u, e = .returned u ∧ CRow w.heap.size w' u L ∧ Below w.heap.size w w'
set_option maxHeartbeats 4000000 in
theorem joined_any (v u : Value) (p q : List Cs) (s : Int) (w : World) (hp : CashAt w v p) (hq : CashAt w u q) (hl1 : p.length ≤ 1000) (hl2 : q.length ≤ 1000) (hs : s = 1 ∨ s = -1) :
    Calls Try.prog 25 #[v, u, .int .i64 s] w (RowOut (joinV p q s) w) := by
  obtain ⟨n, hn⟩ : ∃ n, q.length = n := ⟨_, rfl⟩
  have hp0 := Lib.hid (hp.below ((Below.refl w.heap.size w).alloc (Nat.le_refl _) (.cells #[] 40)))
  have hq0 := Lib.hid hq
  have h0 := Lib.hid (crow_lit0 w.heap.size w (Nat.le_refl _))
  have hB0 := Lib.hid ((Below.refl w.heap.size w).alloc (Nat.le_refl _) (.cells #[] 40))
  obtain ⟨q1, c1, rfl, -, hqc⟩ := hq
  rw [hn] at hqc hl2 ⊢
  have hqc' := Lib.hid hqc
  have hn' := Lib.hid hn
  clear hqc hp hn
  go_enter Try.func25, Try.ntmps25
  go_wp2_with (at_builtin; refine wpList_append_cash rfl (.tmp 10) (.tmp 11) rfl w.heap.size _ [] rfl h0.out _ p rfl hp0.out (by simp; omega) (by simp) ?_; intro v' w6 hown hgrow)
  have hown' := Lib.hid (show CRow w.heap.size w6 v' (joinV p (q.take 0) s) by simpa [joinV] using hown)
  have hB1 := Lib.hid (hB0.out.grown hgrow (by simp) (fun g hg => by
    have e : (Value.slice (some ⟨w.heap.size, 0, none⟩) 0 0).ownBlock = some g := hg
    simp [Value.ownBlock] at e; omega))
  clear hown hgrow h0 hp0 hB0
  go_loopw [7, 8] (fun x i wr => ∃ k : Nat, k ≤ n ∧ i = .int .i64 k ∧ Hid (CRow w.heap.size wr x (joinV p (q.take k) s)) ∧ Hid (Below w.heap.size w wr)) (fun _ i _ => n - (intOf i).toNat)
  case atStart => exact ⟨0, Nat.zero_le _, rfl, hown', hB1⟩
  case round =>
    obtain ⟨k, hk, rfl, hR, hB⟩ := hrel
    by_cases hlt : k < n
    · obtain ⟨b, off, rfl, hc⟩ := hqc'.out (by omega)
      obtain ⟨y0, y1⟩ := hc k hlt
      have hlb : b < w.heap.size := World.block_lt_of_cell? _ _ y0
      rw [← hB.out.cell (p := ⟨b, off + k * 2, none⟩) hlb] at y0
      rw [← hB.out.cell (p := ⟨b, off + k * 2 + 1, none⟩) hlb] at y1
      have hjt := joinV_take p q s k (by rw [hn'.out]; exact hlt)
      have hjl : Hid ((joinV p (q.take k) s).length ≤ 2000) := Lib.hid (by unfold joinV; simp; omega)
      have hnY := negC_yes s (cs q k)
      have hnN := negC_no s (cs q k)
      have hbl := Lib.hid (crow_block hR.out)
      clear hc hlb
      obtain ⟨C, hC⟩ : ∃ C, (cs q k).c = C := ⟨_, rfl⟩
      obtain ⟨A, hA⟩ : ∃ A, (cs q k).a = A := ⟨_, rfl⟩
      have hcs : cs q k = ⟨C, A⟩ := by rw [← hC, ← hA]
      rw [hC] at y0
      rw [hA] at y1
      rw [hcs] at hnY hnN hjt
      clear hC hA hcs
      have A0 := Lib.hid (CAt.new wr C A 40)
      have R4 := Lib.hid (hR.out.alloc (.cells #[.int .i64 C, .int .i64 A] 40))
      have B4 := Lib.hid (hB.out.alloc hB.out.size (.cells #[.int .i64 C, .int .i64 A] 40))
      have hpw : w.heap.size ≤ wr.heap.size := hB.out.size
      by_cases hv : okI A
      · have hjt := Lib.hid (hjt.trans (by rw [hnY hv]))
        have hv' := Lib.hid (show okB A = true from decide_eq_true hv)
        have hz : -17592186044416 ≤ s * A ∧ s * A ≤ 17592186044416 := by
          unfold okI at hv
          rcases hs with rfl | rfl <;> omega
        obtain ⟨hz1, hz2⟩ := hz
        clear hnY hnN hv
        go_wp2_with fail
        generalize wr.alloc (.cells #[.int .i64 C, .int .i64 A] 40) = W4 at *
        generalize wr.heap.size = pb at *
        refine (rvalid_any A _ true hv'.out).mono ?_; rintro e w' ⟨rfl, rfl⟩
        obtain ⟨_, k0, k1, f0, f1⟩ := A0.out
        have A6 := A0.out.set (s * A)
        obtain ⟨_, e0, e1, _, _⟩ := A6
        have hbp := Lib.hid (fun g (e : u7.ownBlock = some g) => (hbl.out g e).2)
        have R5 := Lib.hid (crow_other (o := 1) R4.out (fun e => by have := hbp.out pb e; omega) (.int .i64 (s * A)))
        have B5 := Lib.hid (B4.out.setCell (p := ⟨pb, 1, none⟩) hpw (.int .i64 (s * A)))
        have hone := cash_one (W4.setCell ⟨pb, 1, none⟩ (.int .i64 (s * A))) ⟨C, s * A⟩
        rw [World.size_setCell] at hone
        have ho2 := Lib.hid hone
        clear A0 R4 B4 hone hR hB
        go_wp2_with (at_builtin; refine wpList_append_cash rfl (.tmp 31) (.tmp 33) rfl w.heap.size u7 (joinV p (q.take k) s) rfl (R5.out.alloc (.cells #[.int .i64 C, .int .i64 (s * A)] 40)) _ [⟨C, (s * A)⟩] rfl ho2.out (by have := hjl.out; simp; omega) (by have := B5.out.size; simp; omega) ?_; intro v' w6 hown hgrow)
        have B6 := Lib.hid (((B5.out.alloc B5.out.size (.cells #[.int .i64 C, .int .i64 (s * A)] 40))).grown hgrow (by have := B5.out.size; simp; omega) (fun g hg => (hbl.out g hg).1))
        have R6 := Lib.hid hown
        clear hown hgrow
        go_roundw
        case rel => exact ⟨k + 1, by omega, by go_num, by rw [hjt.out]; exact R6, B6⟩
        case measure => simp [intOf]; omega
      · have hjt := Lib.hid (hjt.trans (by rw [hnN hv]))
        have hv' := Lib.hid (show okB A = false from decide_eq_false hv)
        clear hnY hnN hv
        go_wp2_with fail
        generalize wr.alloc (.cells #[.int .i64 C, .int .i64 A] 40) = W4 at *
        generalize wr.heap.size = pb at *
        refine (rvalid_any A _ false hv'.out).mono ?_; rintro e w' ⟨rfl, rfl⟩
        obtain ⟨_, k0, k1, f0, f1⟩ := A0.out
        clear hR hB
        go_wp2_with (at_builtin; refine wpList_append_cash rfl (.tmp 31) (.tmp 33) rfl w.heap.size u7 (joinV p (q.take k) s) rfl (R4.out.alloc (.cells #[.int .i64 C, .int .i64 A] 40)) _ [⟨C, A⟩] rfl (cash_one _ ⟨C, A⟩) (by have := hjl.out; simp; omega) (by have := B4.out.size; simp; omega) ?_; intro v' w6 hown hgrow)
        have B6 := Lib.hid (((B4.out.alloc B4.out.size (.cells #[.int .i64 C, .int .i64 A] 40))).grown hgrow (by have := B4.out.size; simp; omega) (fun g hg => (hbl.out g hg).1))
        have R6 := Lib.hid hown
        clear hown hgrow
        go_roundw
        case rel => exact ⟨k + 1, by omega, by go_num, by rw [hjt.out]; exact R6, B6⟩
        case measure => simp [intOf]; omega
    · obtain rfl : k = n := by omega
      have hfin : RowOut (joinV p q s) w (.returned u7) wr := ⟨u7, rfl, by have := hR.out; rw [← hn'.out, List.take_length] at this; exact this, hB.out⟩
      have hfin' := Lib.hid hfin
      clear hfin
      go_wp2_with fail
      go_ret
      exact hfin'.out
end Go.Proofs.Ytcdfedkcefhdiaa.Exc
