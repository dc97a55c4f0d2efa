/- The statements' tokens of a deck. -/
import Derived.Test.YtaengcbjpniclaaGreatDoorLxSame
namespace Go.Proofs.YtaengcbjpniclaaGreatDoor.Lx
open Go.RowKit Go.Lib Go.Proofs.YtaengcbjpniclaaGreatDoor.Bas Go.Proofs.YtaengcbjpniclaaGreatDoor.Cal Go.Proofs.YtaengcbjpniclaaGreatDoor.Spl Go.Proofs.YtaengcbjpniclaaGreatDoor.Dk
set_option linter.unusedVariables false

theorem trow_kept {d B : Nat} {w w' : World} {v : Value} {L : List Tk} (h : TRow B w v L) (k : Kept d w w') (hd : v.ownBlock ≠ some d) : TRow B w' v L := by
  have hlt := World.ownsRow.lt h
  obtain ⟨h1, h2⟩ := h
  refine ⟨h1, ?_⟩
  rcases h2 with h2 | ⟨g, cap, cur, hv, hg, hh, r⟩
  · exact Or.inl h2
  · refine Or.inr ⟨g, cap, cur, hv, hg, ?_, r⟩
    subst hv
    rw [k.block g (hlt g rfl).2 (fun e => hd (by rw [← e]; rfl))]; exact hh
/-- Up to 30 valid tokens. -/
def ToksOut (w : World) (e : Ending) (w' : World) : Prop := ∃ u, ∃ L : List Tk, e = .returned u ∧ (∀ t ∈ L, wrE t = 0) ∧ L.length ≤ 30 ∧ TRow w.heap.size w' u L ∧ Below w.heap.size w w'
theorem val_snoc {L : List Tk} {t : Tk} (h : ∀ x ∈ L, wrE x = 0) (ht : wrE t = 0) : ∀ x ∈ L ++ [t], wrE x = 0 := by
  intro x hx
  rcases List.mem_append.1 hx with hx | hx
  · exact h x hx
  · simp only [List.mem_singleton] at hx
    rw [hx]; exact ht
theorem wrE_word (u : List UInt8) (h : wordB u = true) : wrE ⟨1, u, 0, 0⟩ = 0 := by simp [wrE, h]
theorem wrE_num (n : Int) (h0 : -17592186044416 ≤ n) (h1 : n ≤ 17592186044416) : wrE ⟨2, [], n, 0⟩ = 0 := by simp [wrE, h0, h1]
theorem wrE_hour (n : Int) (h0 : 0 ≤ n) (h1 : n ≤ 876599) : wrE ⟨3, [], n, 0⟩ = 0 := by simp [wrE, h0, h1]
theorem wrE_mark (u : List UInt8) (h : markB u = true) : wrE ⟨4, u, 0, 0⟩ = 0 := by simp [wrE, h]
/-- What is carried from round to round. -/
structure TokAt (w : World) (d : Nat) (v : Value) (l : List Int) (wr : World) (x : Value) (L : List Tk) : Prop where
  row : TRow (d + 1) wr x L
  deck : Deck w.heap.size wr d v l
  below : Below w.heap.size w wr
  val : ∀ t ∈ L, wrE t = 0
theorem TokAt.kept {w : World} {d : Nat} {v : Value} {l : List Int} {wr w2 : World} {x : Value} {L : List Tk} (h : TokAt w d v l wr x L) (hD : Deck w.heap.size w2 d v l) (hK : Kept d wr w2) : TokAt w d v l w2 x L :=
  ⟨trow_kept h.row hK (fun e => by have := (h.row.block d e).1; omega), hD, h.below.trans (hK.below hD.ge h.below.size), h.val⟩
theorem TokAt.dr {w : World} {d : Nat} {v : Value} {l : List Int} {wr w2 : World} {x : Value} {L : List Tk} (h : TokAt w d v l wr x L) (hd : Dr wr w2) : TokAt w d v l w2 x L := by
  obtain ⟨n, rfl⟩ := hd
  exact ⟨h.row, h.deck.drewN n, below_drewN h.below n, h.val⟩
theorem TokAt.alloc {w : World} {d : Nat} {v : Value} {l : List Int} {wr : World} {x : Value} {L : List Tk} (h : TokAt w d v l wr x L) (o : Obj) : TokAt w d v l (wr.alloc o) x L :=
  ⟨h.row.alloc o, h.deck.below (below_box wr o), h.below.alloc h.below.size o, h.val⟩
theorem TokAt.snoc {w : World} {d : Nat} {v : Value} {l : List Int} {wr w2 : World} {x x2 : Value} {L : List Tk} {t : Tk} (h : TokAt w d v l wr x L) (hR : TRow (d + 1) w2 x2 (L ++ [t])) (hg : wr.grownBy w2 x.ownBlock) (ht : wrE t = 0) : TokAt w d v l w2 x2 (L ++ [t]) :=
  ⟨hR, h.deck.grown hg (fun g e => by have := (h.row.block g e).1; omega), h.below.grown hg h.below.size (fun g e => by have := (h.row.block g e).1; have := h.deck.ge; omega), val_snoc h.val ht⟩
theorem TokAt.fin {w : World} {d : Nat} {v : Value} {l : List Int} {wr : World} {x : Value} {L : List Tk} (h : TokAt w d v l wr x L) (hL : L.length ≤ 30) : ToksOut w (.returned x) wr :=
  ⟨x, L, rfl, h.val, hL, h.row.mono (by have := h.deck.ge; omega), h.below⟩
/-- A slice's length. -/
def rowLen (v : Value) : Nat := match v with | .slice _ n _ => n | _ => 0
theorem rowLen_of {B : Nat} {w : World} {v : Value} {L : List Tk} (h : TRow B w v L) : rowLen v = L.length := by
  obtain ⟨p, c, rfl, _⟩ := h.at
  rfl
set_option maxRecDepth 8000 in
set_option maxHeartbeats 16000000 in
theorem toks_any (v : Value) (l : List Int) (w : World) (hI : IntsAt w v l) (hl : l.length ≤ 9223372036854775807) (hw : ∀ x ∈ l, -9223372036854775808 ≤ x ∧ x ≤ 9223372036854775807) :
    Calls Tryz.prog 8 #[v] w (ToksOut w) := by
  have cN := Lib.hid (new_any v l w hI hl hw)
  clear hI hl hw
  go_enter Tryz.func8, Tryz.ntmps8
  go_wp2_with fail
  refine cN.out.mono ?_; rintro e W1 ⟨d, rfl, hD, hB⟩
  have A0 := Lib.hid (show TokAt w d v l W1 (.slice none 0 0) [] from ⟨trow_nil _ _, hD, hB, fun t h => by cases h⟩)
  clear cN hD hB
  go_wp2_with fail
  go_loopw [4] (fun x4 wr => ∃ L : List Tk, L.length ≤ 30 ∧ Hid (TokAt w d v l wr x4 L)) (fun x _ => 30 - rowLen x)
  case atStart => exact ⟨[], by simp, A0⟩
  case round =>
    obtain ⟨L, hL, hA⟩ := hrel
    have hrow0 := Lib.hid hA.out.row
    obtain ⟨p0, c0, hv0, _, hpp⟩ := hA.out.row.at
    clear hpp
    subst hv0
    have cLf := Lib.hid (left_any _ d v l wr hA.out.deck)
    go_wp2_with fail
    refine cLf.out.mono ?_; rintro e W2 ⟨⟨bl0, rfl⟩, hdr⟩
    have A2 := Lib.hid (hA.out.dr hdr)
    clear hdr cLf hA
    cases bl0 with
    | false =>
      go_wp2_with fail
      go_ret
      exact A2.out.fin hL
    | true =>
      by_cases h30 : L.length < 30
      · have u1 : decide ((L.length : Int) < 30) = true := by simp; omega
        have u2 : decide (L.length < 30) = true := by simp; omega
        have cX := Lib.hid (next_any _ d v l W2 5 (by omega) (by omega) A2.out.deck)
        go_wp2_with fail
        refine cX.out.mono ?_; rintro e W3 ⟨x, hx, rfl, hD3, hK3⟩
        have A3 := Lib.hid (A2.out.kept hD3 hK3)
        clear hD3 hK3 A2 cX u1 u2
        have hx5 : x = 0 ∨ x = 1 ∨ x = 2 ∨ x = 3 ∨ x = 4 := by omega
        clear hx
        rcases hx5 with rfl | rfl | rfl | rfl | rfl
        · have cW := Lib.hid (wd_any _ d v l W3 A3.out.deck)
          go_wp2_with fail
          refine cW.out.mono ?_; rintro e W4 ⟨u, hu, rfl, hD4, hK4⟩
          have A9 := Lib.hid (A3.out.kept hD4 hK4)
          clear hD4 hK4 A3 cW
          have hsz := A9.out.row.block
          have hdl := A9.out.deck.lt
          go_wp2_with (at_builtin; refine wpList_append_tokens rfl (.tmp 19) (.tmp 23) rfl (d + 1) (.slice p0 L.length c0) L rfl (A9.out.row.alloc (.cells #[.int .i64 1, .string (tx u), .int .i64 (0), .int .i64 0] 25)) _ [⟨1, u, 0, 0⟩] rfl (token_one _ ⟨1, u, 0, 0⟩) (by simp; omega) (by simp; omega) ?_; intro v' W9 hown hgrow; refine Hid.out ?_)
          refine Lib.hid ?_
          have AF := Lib.hid ((A9.out.alloc _).snoc hown hgrow (wrE_word u hu))
          clear hown hgrow A9 hsz hdl
          go_wp2_with fail
          go_roundw
          case rel => exact ⟨L ++ [⟨1, u, 0, 0⟩], by simp; omega, AF⟩
          case measure => rw [rowLen_of AF.out.row, rowLen_of hrow0.out]; simp; omega
        · have cW := Lib.hid (wd_any _ d v l W3 A3.out.deck)
          go_wp2_with fail
          refine cW.out.mono ?_; rintro e W4 ⟨u, hu, rfl, hD4, hK4⟩
          have A9 := Lib.hid (A3.out.kept hD4 hK4)
          clear hD4 hK4 A3 cW
          have hsz := A9.out.row.block
          have hdl := A9.out.deck.lt
          go_wp2_with (at_builtin; refine wpList_append_tokens rfl (.tmp 19) (.tmp 23) rfl (d + 1) (.slice p0 L.length c0) L rfl (A9.out.row.alloc (.cells #[.int .i64 1, .string (tx u), .int .i64 (0), .int .i64 0] 25)) _ [⟨1, u, 0, 0⟩] rfl (token_one _ ⟨1, u, 0, 0⟩) (by simp; omega) (by simp; omega) ?_; intro v' W9 hown hgrow; refine Hid.out ?_)
          refine Lib.hid ?_
          have AF := Lib.hid ((A9.out.alloc _).snoc hown hgrow (wrE_word u hu))
          clear hown hgrow A9 hsz hdl
          go_wp2_with fail
          go_roundw
          case rel => exact ⟨L ++ [⟨1, u, 0, 0⟩], by simp; omega, AF⟩
          case measure => rw [rowLen_of AF.out.row, rowLen_of hrow0.out]; simp; omega
        · have cW := Lib.hid (upto_any _ d v l W3 17592186044416 (by omega) A3.out.deck)
          go_wp2_with fail
          refine cW.out.mono ?_; rintro e W4 ⟨x, hx, rfl, hD4, hK4⟩
          have A4 := Lib.hid (A3.out.kept hD4 hK4)
          clear hD4 hK4 A3 cW
          have cV := Lib.hid (upto_any _ d v l W4 50 (by omega) A4.out.deck)
          go_wp2_with fail
          refine cV.out.mono ?_; rintro e W5 ⟨y, hy, rfl, hD5, hK5⟩
          have A9 := Lib.hid (A4.out.kept hD5 hK5)
          clear hD5 hK5 A4 cV
          have hsz := A9.out.row.block
          have hdl := A9.out.deck.lt
          go_wp2_with (at_builtin; refine wpList_append_tokens rfl (.tmp 27) (.tmp 34) rfl (d + 1) (.slice p0 L.length c0) L rfl (A9.out.row.alloc (.cells #[.int .i64 2, .string (tx []), .int .i64 ((x : Int) - (y : Int)), .int .i64 0] 25)) _ [⟨2, [], (x : Int) - (y : Int), 0⟩] rfl (token_one _ ⟨2, [], (x : Int) - (y : Int), 0⟩) (by simp; omega) (by simp; omega) ?_; intro v' W9 hown hgrow; refine Hid.out ?_)
          refine Lib.hid ?_
          have AF := Lib.hid ((A9.out.alloc _).snoc hown hgrow (wrE_num _ (by omega) (by omega)))
          clear hown hgrow A9 hsz hdl
          go_wp2_with fail
          go_roundw
          case rel => exact ⟨L ++ [⟨2, [], (x : Int) - (y : Int), 0⟩], by simp; omega, AF⟩
          case measure => rw [rowLen_of AF.out.row, rowLen_of hrow0.out]; simp; omega
        · have cW := Lib.hid (dhour_any _ d v l W3 A3.out.deck)
          go_wp2_with fail
          refine cW.out.mono ?_; rintro e W4 ⟨x, hx, rfl, hD4, hK4⟩
          have A9 := Lib.hid (A3.out.kept hD4 hK4)
          clear hD4 hK4 A3 cW
          have hsz := A9.out.row.block
          have hdl := A9.out.deck.lt
          go_wp2_with (at_builtin; refine wpList_append_tokens rfl (.tmp 38) (.tmp 42) rfl (d + 1) (.slice p0 L.length c0) L rfl (A9.out.row.alloc (.cells #[.int .i64 3, .string (tx []), .int .i64 ((x : Int)), .int .i64 0] 25)) _ [⟨3, [], (x : Int), 0⟩] rfl (token_one _ ⟨3, [], (x : Int), 0⟩) (by simp; omega) (by simp; omega) ?_; intro v' W9 hown hgrow; refine Hid.out ?_)
          refine Lib.hid ?_
          have AF := Lib.hid ((A9.out.alloc _).snoc hown hgrow (wrE_hour _ (by omega) (by omega)))
          clear hown hgrow A9 hsz hdl
          go_wp2_with fail
          go_roundw
          case rel => exact ⟨L ++ [⟨3, [], (x : Int), 0⟩], by simp; omega, AF⟩
          case measure => rw [rowLen_of AF.out.row, rowLen_of hrow0.out]; simp; omega
        · have AA := Lib.hid (A3.out.alloc (.cells #[.string { data := #[59] }, .string { data := #[58] }, .string { data := #[44] }, .string { data := #[40] }, .string { data := #[41] }] 9))
          have cW := Lib.hid (next_any _ d v l _ 5 (by omega) (by omega) AA.out.deck)
          have hdl3 := A3.out.deck.lt
          go_wp2_with fail
          refine cW.out.mono ?_; rintro e W4 ⟨x, hx, rfl, hD4, hK4⟩
          have A9 := Lib.hid (AA.out.kept hD4 hK4)
          have g0 : W4.cell? ⟨W3.heap.size, 0, none⟩ = some (.string { data := #[59] }) := by rw [kept_cell (p := ⟨W3.heap.size, 0, none⟩) hK4 (by simp) (by show W3.heap.size ≠ d; omega)]; simp
          have g1 : W4.cell? ⟨W3.heap.size, 1, none⟩ = some (.string { data := #[58] }) := by rw [kept_cell (p := ⟨W3.heap.size, 1, none⟩) hK4 (by simp) (by show W3.heap.size ≠ d; omega)]; simp
          have g2 : W4.cell? ⟨W3.heap.size, 2, none⟩ = some (.string { data := #[44] }) := by rw [kept_cell (p := ⟨W3.heap.size, 2, none⟩) hK4 (by simp) (by show W3.heap.size ≠ d; omega)]; simp
          have g3 : W4.cell? ⟨W3.heap.size, 3, none⟩ = some (.string { data := #[40] }) := by rw [kept_cell (p := ⟨W3.heap.size, 3, none⟩) hK4 (by simp) (by show W3.heap.size ≠ d; omega)]; simp
          have g4 : W4.cell? ⟨W3.heap.size, 4, none⟩ = some (.string { data := #[41] }) := by rw [kept_cell (p := ⟨W3.heap.size, 4, none⟩) hK4 (by simp) (by show W3.heap.size ≠ d; omega)]; simp
          clear hD4 hK4 A3 AA cW hdl3
          have hx6 : x = 0 ∨ x = 1 ∨ x = 2 ∨ x = 3 ∨ x = 4 := by omega
          clear hx
          rcases hx6 with rfl | rfl | rfl | rfl | rfl
          · have hsz := A9.out.row.block
            have hdl := A9.out.deck.lt
            go_wp2_with (at_builtin; refine wpList_append_tokens rfl (.tmp 46) (.tmp 53) rfl (d + 1) (.slice p0 L.length c0) L rfl (A9.out.row.alloc (.cells #[.int .i64 4, .string (tx [59]), .int .i64 (0), .int .i64 0] 25)) _ [⟨4, [59], 0, 0⟩] rfl (token_one _ ⟨4, [59], 0, 0⟩) (by simp; omega) (by simp; omega) ?_; intro v' W9 hown hgrow; refine Hid.out ?_)
            refine Lib.hid ?_
            have AF := Lib.hid ((A9.out.alloc _).snoc hown hgrow (wrE_mark _ (by decide +kernel)))
            clear hown hgrow A9 hsz hdl
            go_wp2_with fail
            go_roundw
            case rel => exact ⟨L ++ [⟨4, [59], 0, 0⟩], by simp; omega, AF⟩
            case measure => rw [rowLen_of AF.out.row, rowLen_of hrow0.out]; simp; omega
          · have hsz := A9.out.row.block
            have hdl := A9.out.deck.lt
            go_wp2_with (at_builtin; refine wpList_append_tokens rfl (.tmp 46) (.tmp 53) rfl (d + 1) (.slice p0 L.length c0) L rfl (A9.out.row.alloc (.cells #[.int .i64 4, .string (tx [58]), .int .i64 (0), .int .i64 0] 25)) _ [⟨4, [58], 0, 0⟩] rfl (token_one _ ⟨4, [58], 0, 0⟩) (by simp; omega) (by simp; omega) ?_; intro v' W9 hown hgrow; refine Hid.out ?_)
            refine Lib.hid ?_
            have AF := Lib.hid ((A9.out.alloc _).snoc hown hgrow (wrE_mark _ (by decide +kernel)))
            clear hown hgrow A9 hsz hdl
            go_wp2_with fail
            go_roundw
            case rel => exact ⟨L ++ [⟨4, [58], 0, 0⟩], by simp; omega, AF⟩
            case measure => rw [rowLen_of AF.out.row, rowLen_of hrow0.out]; simp; omega
          · have hsz := A9.out.row.block
            have hdl := A9.out.deck.lt
            go_wp2_with (at_builtin; refine wpList_append_tokens rfl (.tmp 46) (.tmp 53) rfl (d + 1) (.slice p0 L.length c0) L rfl (A9.out.row.alloc (.cells #[.int .i64 4, .string (tx [44]), .int .i64 (0), .int .i64 0] 25)) _ [⟨4, [44], 0, 0⟩] rfl (token_one _ ⟨4, [44], 0, 0⟩) (by simp; omega) (by simp; omega) ?_; intro v' W9 hown hgrow; refine Hid.out ?_)
            refine Lib.hid ?_
            have AF := Lib.hid ((A9.out.alloc _).snoc hown hgrow (wrE_mark _ (by decide +kernel)))
            clear hown hgrow A9 hsz hdl
            go_wp2_with fail
            go_roundw
            case rel => exact ⟨L ++ [⟨4, [44], 0, 0⟩], by simp; omega, AF⟩
            case measure => rw [rowLen_of AF.out.row, rowLen_of hrow0.out]; simp; omega
          · have hsz := A9.out.row.block
            have hdl := A9.out.deck.lt
            go_wp2_with (at_builtin; refine wpList_append_tokens rfl (.tmp 46) (.tmp 53) rfl (d + 1) (.slice p0 L.length c0) L rfl (A9.out.row.alloc (.cells #[.int .i64 4, .string (tx [40]), .int .i64 (0), .int .i64 0] 25)) _ [⟨4, [40], 0, 0⟩] rfl (token_one _ ⟨4, [40], 0, 0⟩) (by simp; omega) (by simp; omega) ?_; intro v' W9 hown hgrow; refine Hid.out ?_)
            refine Lib.hid ?_
            have AF := Lib.hid ((A9.out.alloc _).snoc hown hgrow (wrE_mark _ (by decide +kernel)))
            clear hown hgrow A9 hsz hdl
            go_wp2_with fail
            go_roundw
            case rel => exact ⟨L ++ [⟨4, [40], 0, 0⟩], by simp; omega, AF⟩
            case measure => rw [rowLen_of AF.out.row, rowLen_of hrow0.out]; simp; omega
          · have hsz := A9.out.row.block
            have hdl := A9.out.deck.lt
            go_wp2_with (at_builtin; refine wpList_append_tokens rfl (.tmp 46) (.tmp 53) rfl (d + 1) (.slice p0 L.length c0) L rfl (A9.out.row.alloc (.cells #[.int .i64 4, .string (tx [41]), .int .i64 (0), .int .i64 0] 25)) _ [⟨4, [41], 0, 0⟩] rfl (token_one _ ⟨4, [41], 0, 0⟩) (by simp; omega) (by simp; omega) ?_; intro v' W9 hown hgrow; refine Hid.out ?_)
            refine Lib.hid ?_
            have AF := Lib.hid ((A9.out.alloc _).snoc hown hgrow (wrE_mark _ (by decide +kernel)))
            clear hown hgrow A9 hsz hdl
            go_wp2_with fail
            go_roundw
            case rel => exact ⟨L ++ [⟨4, [41], 0, 0⟩], by simp; omega, AF⟩
            case measure => rw [rowLen_of AF.out.row, rowLen_of hrow0.out]; simp; omega
      · have u1 : decide ((L.length : Int) < 30) = false := by simp; omega
        have u2 : decide (L.length < 30) = false := by simp; omega
        go_wp2_with fail
        go_ret
        exact A2.out.fin hL
end Go.Proofs.YtaengcbjpniclaaGreatDoor.Lx
