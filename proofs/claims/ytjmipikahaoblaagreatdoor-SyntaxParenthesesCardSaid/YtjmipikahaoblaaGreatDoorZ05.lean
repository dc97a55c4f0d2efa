/- The table of the operators in memory. The program's names, and slices.Contains over strings. The program's check of a node. The program's fits, valid, Valid. The program's valid, Valid. The reference's Size (cut), deeper, nodes. An expression that was written is read as the same expression (mathematics). The reader's equations without fuel (mathematics). How a reader that stops at its first error  -/
import Derived.Test.YtjmipikahaoblaaGreatDoorZ04
import Derived.Test.YtjmipikahaoblaaGreatDoorZ01
namespace Go.Proofs.YtjmipikahaoblaaGreatDoor.Syn
open Go.RowKit Go.Lib Go.Proofs.YtjmipikahaoblaaGreatDoor.Bas Go.Proofs.YtjmipikahaoblaaGreatDoor.Cal Go.Proofs.YtjmipikahaoblaaGreatDoor.Lx Go.Proofs.YtjmipikahaoblaaGreatDoor.Sc
set_option linter.unusedVariables false

/-- A row of the table: a word; a name, words, bounds?; so many arguments; or more? -/
structure Opr where
  w : List UInt8
  nm : Bool
  ls : Bool
  rg : Bool
  lt : Int
  mr : Bool
def o0 : Opr := ⟨[], false, false, false, 0, false⟩
def opTab : List Opr := [o0, ⟨wTrue, false, false, false, 0, false⟩, ⟨wFalse, false, false, false, 0, false⟩, ⟨[], true, false, false, 0, false⟩, ⟨wIn, true, true, false, 0, false⟩, ⟨wFrom, true, false, true, 0, false⟩, ⟨wNot, false, false, false, 1, false⟩, ⟨wAnd, false, false, false, 2, true⟩, ⟨wOr, false, false, false, 2, true⟩]
def opr (i : Nat) : Opr := opTab.getD i o0
/-- The table's cells. -/
def OpsAt (w : World) : Prop := ∀ i, i < 9 → w.cell? ⟨0, i * 6, none⟩ = some (.string (tx (opr i).w)) ∧ w.cell? ⟨0, i * 6 + 1, none⟩ = some (.bool (opr i).nm) ∧ w.cell? ⟨0, i * 6 + 2, none⟩ = some (.bool (opr i).ls) ∧
  w.cell? ⟨0, i * 6 + 3, none⟩ = some (.bool (opr i).rg) ∧ w.cell? ⟨0, i * 6 + 4, none⟩ = some (.int .i64 (opr i).lt) ∧ w.cell? ⟨0, i * 6 + 5, none⟩ = some (.bool (opr i).mr)
theorem OpsAt.lt {w : World} (h : OpsAt w) : 0 < w.heap.size := World.block_lt_of_cell? _ _ (h 0 (by decide)).1
theorem OpsAt.block {w w' : World} (h : OpsAt w) (hb : w'.heap[0]? = w.heap[0]?) : OpsAt w' := fun i hi => by
  obtain ⟨h0, h1, h2, h3, h4, h5⟩ := h i hi
  exact ⟨cell_same h0 fun _ => hb, cell_same h1 fun _ => hb, cell_same h2 fun _ => hb, cell_same h3 fun _ => hb, cell_same h4 fun _ => hb, cell_same h5 fun _ => hb⟩
theorem OpsAt.keep {w w' : World} (h : OpsAt w) (hb : Below w.heap.size w w') : OpsAt w' := h.block (hb.block _ h.lt)
theorem OpsAt.drewN {w : World} (h : OpsAt w) (n : Nat) : OpsAt (w.drewN n) := h
theorem OpsAt.word {w : World} (h : OpsAt w) (i : Nat) (hi : i < 9) : w.cell? ⟨0, i * 6, none⟩ = some (.string (tx (opr i).w)) := (h i hi).1
end Go.Proofs.YtjmipikahaoblaaGreatDoor.Syn
namespace Go.Proofs.YtjmipikahaoblaaGreatDoor.Sc
open Go.RowKit Go.Lib Go.Proofs.YtjmipikahaoblaaGreatDoor.Bas Go.Proofs.YtjmipikahaoblaaGreatDoor.Cal Go.Proofs.YtjmipikahaoblaaGreatDoor.Lx
set_option linter.unusedVariables false

theorem pname_tx (x : List UInt8) (w : World) (h : x.length ≤ 9223372036854775807) : Calls Tryz.prog 128 #[.string (tx x)] w (BoolSame (nameB x) w) := by
  have := name_any (tx x) w (by rw [tx_size]; exact h)
  rw [bl_tx] at this
  exact this
theorem mem_tx (x : List UInt8) (l : List (List UInt8)) : tx x ∈ l.map tx ↔ x ∈ l := by
  rw [List.mem_map]
  constructor
  · rintro ⟨y, hy, e⟩; rw [← tx_inj e]; exact hy
  · intro h; exact ⟨x, h, rfl⟩
theorem getD_tx (l : List (List UInt8)) (j : Nat) (h : j < l.length) : (l.map tx).getD j ByteArray.empty = tx (l.getD j []) := by
  simp [List.getD_eq_getElem?_getD, h]
/-- slices.Contains over the first i of these strings. -/
theorem pcont_any (p : Option Addr) (c : Nat) (l : List (List UInt8)) (i : Nat) (x : List UInt8) (w : World) (hi : i ≤ l.length) (hl : l.length ≤ 9223372036854775807)
    (hp : 0 < l.length → ∃ b off, p = some ⟨b, off, none⟩ ∧ ∀ j, j < l.length → w.cell? ⟨b, off + j, none⟩ = some (.string (tx (l.getD j [])))) :
    Calls Tryz.prog 129 #[.slice p i c, .string (tx x)] w (BoolSame (decide (x ∈ l.take i)) w) := by
  by_cases h0 : i = 0
  · subst h0
    rw [List.take_zero, show decide (x ∈ ([] : List (List UInt8))) = false from decide_eq_false (by simp)]
    exact (Tryz.slices_Contains_string_empty p c (tx x) w).mono fun e w' ⟨h1, h2⟩ => ⟨h1, h2.symm⟩
  · obtain ⟨b, off, rfl, hc⟩ := hp (by omega)
    have hz : (l.map tx).length = l.length := by simp
    refine (Tryz.slices_Contains_string b off i c (l.map tx) (tx x) w (by rw [hz]; exact hi) (by omega) (fun j hj => by
      have hj' : j < l.length := by rw [← hz]; exact hj
      rw [getD_tx l j hj']; exact hc j hj')).mono ?_
    rintro e w' ⟨rfl, rfl⟩
    refine ⟨?_, rfl⟩
    have : Lib.containsS ((l.map tx).take i) (tx x) = decide (x ∈ l.take i) := by
      rw [← List.map_take]
      cases h : Lib.containsS ((l.take i).map tx) (tx x) with
      | true => rw [decide_eq_true ((mem_tx _ _).1 ((Lib.containsS_iff _ _).1 h))]
      | false =>
        rw [decide_eq_false]
        intro hh
        rw [(Lib.containsS_iff _ _).2 ((mem_tx _ _).2 hh)] at h; cases h
    rw [this]
end Go.Proofs.YtjmipikahaoblaaGreatDoor.Sc
namespace Go.Proofs.YtjmipikahaoblaaGreatDoor.Syn
open Go.RowKit Go.Lib Go.Proofs.YtjmipikahaoblaaGreatDoor.Bas Go.Proofs.YtjmipikahaoblaaGreatDoor.Cal Go.Proofs.YtjmipikahaoblaaGreatDoor.Lx Go.Proofs.YtjmipikahaoblaaGreatDoor.Sc
set_option linter.unusedVariables false

/-- A bool; nothing of before has changed. -/
def BB (b : Bool) (w : World) (e : Ending) (w' : World) : Prop := e = .returned (.bool b) ∧ Below w.heap.size w w'
def opV (o : Opr) : Value := .agg #[.string (tx o.w), .bool o.nm, .bool o.ls, .bool o.rg, .int .i64 o.lt, .bool o.mr]
abbrev opO (o : Opr) : Obj := .cells #[.string (tx o.w), .bool o.nm, .bool o.ls, .bool o.rg, .int .i64 o.lt, .bool o.mr] 104
/-- The cells of a row of the table. -/
def OAt6 (W : World) (b : Nat) (o : Opr) : Prop := b < W.heap.size ∧ W.cell? ⟨b, 0, none⟩ = some (.string (tx o.w)) ∧ W.cell? ⟨b, 1, none⟩ = some (.bool o.nm) ∧ W.cell? ⟨b, 2, none⟩ = some (.bool o.ls) ∧ W.cell? ⟨b, 3, none⟩ = some (.bool o.rg) ∧ W.cell? ⟨b, 4, none⟩ = some (.int .i64 o.lt) ∧ W.cell? ⟨b, 5, none⟩ = some (.bool o.mr)
theorem OAt6.new (w : World) (o : Opr) : OAt6 (w.alloc (opO o)) w.heap.size o := by refine ⟨by simp, by simp, by simp, by simp, by simp, by simp, by simp⟩
theorem OAt6.keep {w w' : World} {b : Nat} {o : Opr} (h : OAt6 w b o) (hb : Below w.heap.size w w') : OAt6 w' b o := by
  obtain ⟨h0, h1, h2, h3, h4, h5, h6⟩ := h
  have e := hb.block b h0
  exact ⟨Nat.lt_of_lt_of_le h0 hb.size, cell_same h1 fun _ => e, cell_same h2 fun _ => e, cell_same h3 fun _ => e, cell_same h4 fun _ => e, cell_same h5 fun _ => e, cell_same h6 fun _ => e⟩
def fnB (o : Opr) (nm : List UInt8) : Bool := if o.nm = true then nameB nm else decide (nm = [])
set_option maxHeartbeats 4000000 in
theorem fitsName_any (o : Opr) (nm : List UInt8) (w : World) (h : nm.length ≤ 9223372036854775807) : Calls Tryz.prog 92 #[opV o, .string (tx nm)] w (BB (fnB o nm) w) := by
  have al := Lib.hid (alloc_at w (opO o))
  have cN := Lib.hid (fun w => pname_tx nm w h)
  have he : (tx nm).toList.isEmpty = decide (nm = []) := by
    rw [toList_bl, bl_tx]
    cases nm <;> simp
  unfold fnB opV
  cases hn : o.nm with
  | true =>
    rw [if_pos rfl]
    unfold opO at al
    rw [hn] at al
    generalize tx nm = s at *
    clear he hn
    go_enter Tryz.func92, Tryz.ntmps92
    go_wp2_with fail
    refine (cN.out _).mono ?_; rintro e w' ⟨rfl, rfl⟩
    go_wp2_with fail
    go_ret
    exact ⟨rfl, al.out⟩
  | false =>
    rw [if_neg (by simp)]
    unfold opO at al
    rw [hn] at al
    clear cN hn
    by_cases h0 : nm = []
    · rw [decide_eq_true h0] at he ⊢
      generalize tx nm = s at *
      clear h0
      go_enter Tryz.func92, Tryz.ntmps92
      go_wp2_with fail
      go_ret
      exact ⟨rfl, al.out⟩
    · rw [decide_eq_false h0] at he ⊢
      generalize tx nm = s at *
      clear h0
      go_enter Tryz.func92, Tryz.ntmps92
      go_wp2_with fail
      go_ret
      exact ⟨rfl, al.out⟩
def frB (o : Opr) (lo hi : Int) : Bool := if o.rg = true then decide (-1000000000 ≤ lo ∧ lo ≤ hi ∧ hi ≤ 1000000000) else decide (lo = 0 ∧ hi = 0)
set_option maxHeartbeats 4000000 in
theorem fitsRange_any (o : Opr) (lo hi : Int) (w : World) (h1 : -9223372036854775808 ≤ lo) (h2 : lo ≤ 9223372036854775807) (h3 : -9223372036854775808 ≤ hi) (h4 : hi ≤ 9223372036854775807) : Calls Tryz.prog 94 #[opV o, .int .i64 lo, .int .i64 hi] w (BB (frB o lo hi) w) := by
  have al := Lib.hid (alloc_at w (opO o))
  unfold frB opV
  unfold opO at al
  cases hn : o.rg with
  | true =>
    rw [if_pos rfl]
    rw [hn] at al
    clear hn
    by_cases a : -1000000000 ≤ lo
    · have a1 : decide (-1000000000 ≤ lo) = true := decide_eq_true a
      by_cases b : lo ≤ hi
      · have b1 : decide (lo ≤ hi) = true := decide_eq_true b
        by_cases c : hi ≤ 1000000000
        · have c1 : decide (hi ≤ 1000000000) = true := decide_eq_true c
          rw [decide_eq_true (⟨a, b, c⟩ : -1000000000 ≤ lo ∧ lo ≤ hi ∧ hi ≤ 1000000000)]
          go_enter Tryz.func94, Tryz.ntmps94
          go_wp2_with fail
          go_ret
          exact ⟨rfl, al.out⟩
        · have c1 : decide (hi ≤ 1000000000) = false := decide_eq_false c
          rw [decide_eq_false (fun e : -1000000000 ≤ lo ∧ lo ≤ hi ∧ hi ≤ 1000000000 => c e.2.2)]
          go_enter Tryz.func94, Tryz.ntmps94
          go_wp2_with fail
          go_ret
          exact ⟨rfl, al.out⟩
      · have b1 : decide (lo ≤ hi) = false := decide_eq_false b
        rw [decide_eq_false (fun e : -1000000000 ≤ lo ∧ lo ≤ hi ∧ hi ≤ 1000000000 => b e.2.1)]
        go_enter Tryz.func94, Tryz.ntmps94
        go_wp2_with fail
        go_ret
        exact ⟨rfl, al.out⟩
    · have a1 : decide (-1000000000 ≤ lo) = false := decide_eq_false a
      rw [decide_eq_false (fun e : -1000000000 ≤ lo ∧ lo ≤ hi ∧ hi ≤ 1000000000 => a e.1)]
      go_enter Tryz.func94, Tryz.ntmps94
      go_wp2_with fail
      go_ret
      exact ⟨rfl, al.out⟩
  | false =>
    rw [if_neg (by simp)]
    rw [hn] at al
    clear hn
    by_cases a : lo = 0
    · have a1 : (lo == 0) = true := by simp [a]
      by_cases b : hi = 0
      · have b1 : (hi == 0) = true := by simp [b]
        rw [decide_eq_true (⟨a, b⟩ : lo = 0 ∧ hi = 0)]
        clear a b
        go_enter Tryz.func94, Tryz.ntmps94
        go_wp2_with fail
        go_ret
        exact ⟨rfl, al.out⟩
      · have b1 : (hi == 0) = false := by simpa using b
        rw [decide_eq_false (fun e : lo = 0 ∧ hi = 0 => b e.2)]
        clear a b
        go_enter Tryz.func94, Tryz.ntmps94
        go_wp2_with fail
        go_ret
        exact ⟨rfl, al.out⟩
    · have a1 : (lo == 0) = false := by simpa using a
      rw [decide_eq_false (fun e : lo = 0 ∧ hi = 0 => a e.1)]
      clear a
      go_enter Tryz.func94, Tryz.ntmps94
      go_wp2_with fail
      go_ret
      exact ⟨rfl, al.out⟩
def fwB (o : Opr) (ws : List (List UInt8)) : Bool := if o.ls = true then decide (1 ≤ ws.length ∧ ws.length ≤ 12) && namesB ws && distB ws else decide (ws = [])
theorem fw_short {o : Opr} {ws : List (List UInt8)} (hl : o.ls = true) (h : ¬ (1 ≤ ws.length ∧ ws.length ≤ 12)) : fwB o ws = false := by
  unfold fwB; rw [if_pos hl, decide_eq_false h]; rfl
theorem fw_name {o : Opr} {ws : List (List UInt8)} (hl : o.ls = true) (k : Nat) (hk : k < ws.length) (h : nameB (ws.getD k []) = false) : fwB o ws = false := by
  have : namesB ws = false := by
    unfold namesB; apply decide_eq_false; intro hh; rw [hh k hk] at h; cases h
  unfold fwB; rw [if_pos hl, this, Bool.and_false]; rfl
theorem fw_dup {o : Opr} {ws : List (List UInt8)} (hl : o.ls = true) (k : Nat) (hk : k < ws.length) (h : ws.getD k [] ∈ ws.take k) : fwB o ws = false := by
  have : distB ws = false := by
    unfold distB; apply decide_eq_false; intro hh
    obtain ⟨j, hj, e⟩ := List.getElem_of_mem h
    have hjk : j < k := by rw [List.length_take] at hj; omega
    apply hh k hk j hjk
    rw [← e, List.getElem_take, List.getD_eq_getElem?_getD (i := j), List.getElem?_eq_getElem (by omega)]; rfl
  unfold fwB; rw [if_pos hl, this, Bool.and_false]
theorem fw_ok {o : Opr} {ws : List (List UInt8)} (hl : o.ls = true) (h1 : 1 ≤ ws.length) (h2 : ws.length ≤ 12) (h : ∀ j, j < ws.length → nameB (ws.getD j []) = true ∧ ws.getD j [] ∉ ws.take j) : fwB o ws = true := by
  have a : namesB ws = true := by unfold namesB; exact decide_eq_true fun i hi => (h i hi).1
  have b : distB ws = true := by
    unfold distB; refine decide_eq_true fun i hi k hk e => (h i hi).2 ?_
    rw [e, List.getD_eq_getElem?_getD, List.getElem?_eq_getElem (by omega)]
    exact List.mem_iff_getElem.2 ⟨k, by rw [List.length_take]; omega, by rw [List.getElem_take]; rfl⟩
  unfold fwB; rw [if_pos hl, a, b, decide_eq_true ⟨h1, h2⟩]; rfl
set_option maxRecDepth 8000 in
set_option maxHeartbeats 8000000 in
theorem fitsWords_any (o : Opr) (u : Value) (ws : List (List UInt8)) (w : World) (h : StrsAt w u ws) (hw : WsWf ws) : Calls Tryz.prog 93 #[opV o, u] w (BB (fwB o ws) w) := by
  have al := alloc_at w (opO o)
  have B0 := Lib.hid al
  have S0 := Lib.hid (h.below al)
  have O0 := OAt6.new w o
  obtain ⟨p, c, rfl, ⟨hcap, _⟩, _⟩ := h
  unfold opV
  cases hn : o.ls with
  | false =>
    have hr : fwB o ws = decide (ws.length = 0) := by
      unfold fwB; rw [if_neg (by simp [hn])]
      cases ws <;> simp
    rw [hr]
    unfold opO at B0
    rw [hn] at B0
    have hlm := hw.1
    clear O0 S0 hr hw hn al
    generalize ws.length = n at *
    by_cases h0 : n = 0
    · rw [decide_eq_true h0]
      subst h0
      go_enter Tryz.func93, Tryz.ntmps93
      go_wp2_with fail
      go_ret
      exact ⟨rfl, B0.out⟩
    · rw [decide_eq_false h0]
      have t1 : ((n : Int) == 0) = false := by simp; omega
      have t2 : (n == 0) = false := by simp; omega
      clear h0
      go_enter Tryz.func93, Tryz.ntmps93
      go_wp2_with fail
      go_ret
      exact ⟨rfl, B0.out⟩
  | true =>
    have hsh := Lib.hid (fw_short (ws := ws) hn)
    have hna := Lib.hid (fw_name (ws := ws) hn)
    have hdu := Lib.hid (fw_dup (ws := ws) hn)
    have hok := Lib.hid (fw_ok (ws := ws) hn)
    have hlm := hw.1
    have hwx := Lib.hid hw.2
    generalize fwB o ws = R at *
    unfold opO at B0 S0 O0
    rw [hn] at B0 S0
    clear hn hw al
    obtain ⟨n, hnn⟩ : ∃ n, ws.length = n := ⟨_, rfl⟩
    have hn' := Lib.hid hnn
    rw [hnn] at hcap hlm hsh hna hdu hok S0 ⊢
    clear hnn O0
    by_cases h0 : n = 0
    · have hR := hsh.out (by omega)
      subst h0
      subst hR
      go_enter Tryz.func93, Tryz.ntmps93
      go_wp2_with fail
      go_ret
      exact ⟨rfl, B0.out⟩
    · have t1 : ((n : Int) == 0) = false := by simp; omega
      have t2 : (n == 0) = false := by simp; omega
      by_cases h12 : 12 < n
      · have hR := hsh.out (by omega)
        subst hR
        have t3 : decide ((12 : Int) < (n : Int)) = true := by simp; omega
        have t4 : decide (12 < n) = true := by simp; omega
        clear h0 h12
        go_enter Tryz.func93, Tryz.ntmps93
        go_wp2_with fail
        go_ret
        exact ⟨rfl, B0.out⟩
      · have t3 : decide ((12 : Int) < (n : Int)) = false := by simp; omega
        have t4 : decide (12 < n) = false := by simp; omega
        go_enter Tryz.func93, Tryz.ntmps93
        go_upto_region 5 with fail
        generalize w.alloc (.cells #[.string (tx o.w), .bool o.nm, .bool true, .bool o.rg, .int .i64 o.lt, .bool o.mr] 104) = W0 at *
        go_wp2_with fail
        go_loopw [5, 6, 23] (fun x5 x6 x23 wr => ∃ k : Nat, k ≤ n ∧ x23 = .int .i64 k ∧ wr = W0 ∧ Hid (∀ j, j < k → nameB (ws.getD j []) = true ∧ ws.getD j [] ∉ ws.take j)) (fun _ _ x _ => n - (RowKit.intOf x).toNat)
        case atStart => exact ⟨0, Nat.zero_le _, rfl, rfl, Lib.hid (fun j hj => absurd hj (Nat.not_lt_zero _))⟩
        case round =>
          obtain ⟨k, hk, rfl, rfl, hA⟩ := hrel
          by_cases hlt : k < n
          · obtain ⟨p', c', hv, _, hp⟩ := S0.out
            obtain ⟨rfl, hx1, rfl⟩ := Value.slice.inj hv
            clear hx1
            obtain ⟨b, off, rfl, hc⟩ := hp (by rw [hn'.out]; omega)
            have h1 := hc k (by rw [hn'.out]; exact hlt)
            have hgl : (ws.getD k []).length ≤ 9223372036854775807 := by
              have hkl : k < ws.length := by rw [hn'.out]; exact hlt
              rw [List.getD_eq_getElem?_getD, List.getElem?_eq_getElem hkl]
              exact hwx.out _ (List.getElem_mem _)
            have cN := Lib.hid (pname_tx (ws.getD k []) wr hgl)
            have cC := Lib.hid (pcont_any (some ⟨b, off, none⟩) c ws k (ws.getD k []) wr (by rw [hn'.out]; omega) (by rw [hn'.out]; exact hlm) (fun h => ⟨b, off, rfl, fun j hj => hc j hj⟩))
            have hk64 : IntKind.i64.wrap ((k : Int) + 1) = (k : Int) + 1 := IntWalk.i64_in _ (by omega)
            have hnk := Lib.hid (fun h => hna.out k hlt h)
            have hdk := Lib.hid (fun h => hdu.out k hlt h)
            have hA2 := Lib.hid (fun (g1 : nameB (ws.getD k []) = true) (g2 : ws.getD k [] ∉ ws.take k) => (show ∀ j, j < k + 1 → nameB (ws.getD j []) = true ∧ ws.getD j [] ∉ ws.take j from fun j hj => by
              by_cases e : j = k
              · rw [e]; exact ⟨g1, g2⟩
              · exact hA.out j (by omega)))
            clear hv hc hp hna hdu hok hsh hgl hA S0
            by_cases g2 : ws.getD k [] ∈ ws.take k
            · rw [decide_eq_true g2] at cC
              have hR := hdk.out g2
              subst hR
              clear hnk hdk hA2 g2
              generalize nameB (ws.getD k []) = q at *
              generalize tx (ws.getD k []) = s at *
              go_wp2_with fail
              refine cN.out.mono ?_; rintro e w' ⟨rfl, rfl⟩
              cases q with
              | true =>
                go_wp2_with fail
                refine cC.out.mono ?_; rintro e w' ⟨rfl, rfl⟩
                go_wp2_with fail
                go_ret
                exact ⟨rfl, B0.out⟩
              | false =>
                go_wp2_with fail
                go_ret
                exact ⟨rfl, B0.out⟩
            · rw [decide_eq_false g2] at cC
              cases hq : nameB (ws.getD k []) with
              | true =>
                rw [hq] at cN
                have hA3 := Lib.hid (hA2.out hq g2)
                clear hnk hdk hA2 g2 hq
                generalize tx (ws.getD k []) = s at *
                go_wp2_with fail
                refine cN.out.mono ?_; rintro e w' ⟨rfl, rfl⟩
                go_wp2_with fail
                refine cC.out.mono ?_; rintro e w' ⟨rfl, rfl⟩
                go_wp2_with fail
                go_roundw
                case rel => exact ⟨k + 1, by omega, by go_num, by first | rfl | trivial, hA3⟩
                case measure => simp [RowKit.intOf]; omega
              | false =>
                rw [hq] at cN
                have hR := hnk.out hq
                subst hR
                clear hnk hdk hA2 g2 hq
                generalize tx (ws.getD k []) = s at *
                go_wp2_with fail
                refine cN.out.mono ?_; rintro e w' ⟨rfl, rfl⟩
                go_wp2_with fail
                go_ret
                exact ⟨rfl, B0.out⟩
          · have hR := hok.out (by omega) (by omega) (fun j hj => hA.out j (by omega))
            subst hR
            go_wp2_with fail
            go_ret
            exact ⟨rfl, B0.out⟩
/-- The check of a node, as the table has it. -/
def fitB (d : Nd) (n : Nat) : Bool := decide (1 ≤ d.op ∧ d.op ≤ 8) && !(decide ((n : Int) < (opr d.op.toNat).lt) || (decide ((opr d.op.toNat).lt < (n : Int)) && !(opr d.op.toNat).mr)) && (fnB (opr d.op.toNat) d.nm && fwB (opr d.op.toNat) d.ws && frB (opr d.op.toNat) d.lo d.hi)
theorem far_dec (lo hi : Int) : decide (-1000000000 ≤ lo ∧ lo ≤ hi ∧ hi ≤ 1000000000) = (!farB lo && !farB hi && decide (lo ≤ hi)) := by
  unfold farB
  by_cases h : -1000000000 ≤ lo ∧ lo ≤ hi ∧ hi ≤ 1000000000
  · rw [decide_eq_true h]; simp; omega
  · rw [decide_eq_false h]
    symm
    simp only [Bool.and_eq_false_iff, Bool.not_eq_false', Bool.or_eq_true, decide_eq_true_eq, decide_eq_false_iff_not]
    omega
theorem fit_node (d : Nd) (n : Nat) : fitB d n = nodeB d n := by
  unfold fitB nodeB
  by_cases h : 1 ≤ d.op ∧ d.op ≤ 8
  · rw [decide_eq_true h]
    obtain ⟨op, nm, ws, lo, hi⟩ := d
    simp only at h ⊢
    have hc : op = 1 ∨ op = 2 ∨ op = 3 ∨ op = 4 ∨ op = 5 ∨ op = 6 ∨ op = 7 ∨ op = 8 := by omega
    have e2 : ∀ k : Nat, (!(decide ((n : Int) < 2))) = decide (2 ≤ n) := fun _ => by
      by_cases a : 2 ≤ n
      · rw [decide_eq_true a, decide_eq_false (by omega)]; rfl
      · rw [decide_eq_false a, decide_eq_true (by omega)]; rfl
    have e1 : (!(decide ((n : Int) < 1) || decide ((1 : Int) < n))) = decide (n = 1) := by
      by_cases a : n = 1
      · subst a; rfl
      · rw [decide_eq_false a]
        by_cases b : n < 1
        · rw [decide_eq_true (by omega : (n : Int) < 1)]; rfl
        · rw [decide_eq_true (by omega : (1 : Int) < n), Bool.or_true]; rfl
    have e0 : (!(decide ((n : Int) < 0) || decide ((0 : Int) < n))) = decide (n = 0) := by
      by_cases a : n = 0
      · subst a; rfl
      · rw [decide_eq_false a, decide_eq_true (by omega : (0 : Int) < n), Bool.or_true]; rfl
    rcases hc with rfl | rfl | rfl | rfl | rfl | rfl | rfl | rfl
    · have o1 : opr (Int.toNat (1 : Int)) = ⟨wTrue, false, false, false, 0, false⟩ := rfl
      rw [o1]
      unfold fnB fwB frB
      rw [if_neg (c := (1 : Int) = 3 ∨ (1 : Int) = 4 ∨ (1 : Int) = 5) (by decide), if_neg (c := (1 : Int) = 4) (by decide), if_neg (c := (1 : Int) = 5) (by decide), if_neg (c := (1 : Int) = 6) (by decide), if_neg (c := (1 : Int) = 7 ∨ (1 : Int) = 8) (by decide)]
      show (true && !(decide ((n : Int) < 0) || (decide ((0 : Int) < (n : Int)) && !false)) && (decide (nm = []) && decide (ws = []) && decide (lo = 0 ∧ hi = 0))) = _
      rw [Bool.not_false, Bool.and_true, e0]
      generalize decide (n = 0) = A
      generalize decide (nm = []) = B
      generalize decide (ws = []) = C
      generalize decide (lo = 0 ∧ hi = 0) = D
      cases A <;> cases B <;> cases C <;> cases D <;> rfl
    · have o1 : opr (Int.toNat (2 : Int)) = ⟨wFalse, false, false, false, 0, false⟩ := rfl
      rw [o1]
      unfold fnB fwB frB
      rw [if_neg (c := (2 : Int) = 3 ∨ (2 : Int) = 4 ∨ (2 : Int) = 5) (by decide), if_neg (c := (2 : Int) = 4) (by decide), if_neg (c := (2 : Int) = 5) (by decide), if_neg (c := (2 : Int) = 6) (by decide), if_neg (c := (2 : Int) = 7 ∨ (2 : Int) = 8) (by decide)]
      show (true && !(decide ((n : Int) < 0) || (decide ((0 : Int) < (n : Int)) && !false)) && (decide (nm = []) && decide (ws = []) && decide (lo = 0 ∧ hi = 0))) = _
      rw [Bool.not_false, Bool.and_true, e0]
      generalize decide (n = 0) = A
      generalize decide (nm = []) = B
      generalize decide (ws = []) = C
      generalize decide (lo = 0 ∧ hi = 0) = D
      cases A <;> cases B <;> cases C <;> cases D <;> rfl
    · have o1 : opr (Int.toNat (3 : Int)) = ⟨[], true, false, false, 0, false⟩ := rfl
      rw [o1]
      unfold fnB fwB frB
      rw [if_pos (c := (3 : Int) = 3 ∨ (3 : Int) = 4 ∨ (3 : Int) = 5) (by decide), if_neg (c := (3 : Int) = 4) (by decide), if_neg (c := (3 : Int) = 5) (by decide), if_neg (c := (3 : Int) = 6) (by decide), if_neg (c := (3 : Int) = 7 ∨ (3 : Int) = 8) (by decide)]
      show (true && !(decide ((n : Int) < 0) || (decide ((0 : Int) < (n : Int)) && !false)) && (nameB nm && decide (ws = []) && decide (lo = 0 ∧ hi = 0))) = _
      rw [Bool.not_false, Bool.and_true, e0]
      generalize decide (n = 0) = A
      generalize nameB nm = B
      generalize decide (ws = []) = C
      generalize decide (lo = 0 ∧ hi = 0) = D
      cases A <;> cases B <;> cases C <;> cases D <;> rfl
    · have o1 : opr (Int.toNat (4 : Int)) = ⟨wIn, true, true, false, 0, false⟩ := rfl
      rw [o1]
      unfold fnB fwB frB
      rw [if_pos (c := (4 : Int) = 3 ∨ (4 : Int) = 4 ∨ (4 : Int) = 5) (by decide), if_pos (c := (4 : Int) = 4) (by decide), if_neg (c := (4 : Int) = 5) (by decide), if_neg (c := (4 : Int) = 6) (by decide), if_neg (c := (4 : Int) = 7 ∨ (4 : Int) = 8) (by decide)]
      show (true && !(decide ((n : Int) < 0) || (decide ((0 : Int) < (n : Int)) && !false)) && (nameB nm && (decide (1 ≤ ws.length ∧ ws.length ≤ 12) && namesB ws && distB ws) && decide (lo = 0 ∧ hi = 0))) = _
      rw [Bool.not_false, Bool.and_true, e0]
      generalize decide (n = 0) = A
      generalize nameB nm = B
      generalize (decide (1 ≤ ws.length ∧ ws.length ≤ 12) && namesB ws && distB ws) = C
      generalize decide (lo = 0 ∧ hi = 0) = D
      cases A <;> cases B <;> cases C <;> cases D <;> rfl
    · have o1 : opr (Int.toNat (5 : Int)) = ⟨wFrom, true, false, true, 0, false⟩ := rfl
      rw [o1]
      unfold fnB fwB frB
      rw [if_pos (c := (5 : Int) = 3 ∨ (5 : Int) = 4 ∨ (5 : Int) = 5) (by decide), if_neg (c := (5 : Int) = 4) (by decide), if_pos (c := (5 : Int) = 5) (by decide), if_neg (c := (5 : Int) = 6) (by decide), if_neg (c := (5 : Int) = 7 ∨ (5 : Int) = 8) (by decide)]
      show (true && !(decide ((n : Int) < 0) || (decide ((0 : Int) < (n : Int)) && !false)) && (nameB nm && decide (ws = []) && decide (-1000000000 ≤ lo ∧ lo ≤ hi ∧ hi ≤ 1000000000))) = _
      rw [Bool.not_false, Bool.and_true, e0]
      rw [far_dec]
      generalize decide (n = 0) = A
      generalize nameB nm = B
      generalize decide (ws = []) = C
      generalize (!farB lo && !farB hi && decide (lo ≤ hi)) = D
      cases A <;> cases B <;> cases C <;> cases D <;> rfl
    · have o1 : opr (Int.toNat (6 : Int)) = ⟨wNot, false, false, false, 1, false⟩ := rfl
      rw [o1]
      unfold fnB fwB frB
      rw [if_neg (c := (6 : Int) = 3 ∨ (6 : Int) = 4 ∨ (6 : Int) = 5) (by decide), if_neg (c := (6 : Int) = 4) (by decide), if_neg (c := (6 : Int) = 5) (by decide), if_pos (c := (6 : Int) = 6) rfl]
      show (true && !(decide ((n : Int) < 1) || (decide ((1 : Int) < (n : Int)) && !false)) && (decide (nm = []) && decide (ws = []) && decide (lo = 0 ∧ hi = 0))) = _
      rw [Bool.not_false, Bool.and_true, e1]
      generalize decide (n = 1) = A
      generalize decide (nm = []) = B
      generalize decide (ws = []) = C
      generalize decide (lo = 0 ∧ hi = 0) = D
      cases A <;> cases B <;> cases C <;> cases D <;> rfl
    · have o1 : opr (Int.toNat (7 : Int)) = ⟨wAnd, false, false, false, 2, true⟩ := rfl
      rw [o1]
      unfold fnB fwB frB
      rw [if_neg (c := (7 : Int) = 3 ∨ (7 : Int) = 4 ∨ (7 : Int) = 5) (by decide), if_neg (c := (7 : Int) = 4) (by decide), if_neg (c := (7 : Int) = 5) (by decide), if_neg (c := (7 : Int) = 6) (by decide), if_pos (c := (7 : Int) = 7 ∨ (7 : Int) = 8) (by decide)]
      show (true && !(decide ((n : Int) < 2) || (decide ((2 : Int) < (n : Int)) && !true)) && (decide (nm = []) && decide (ws = []) && decide (lo = 0 ∧ hi = 0))) = _
      rw [Bool.not_true, Bool.and_false, Bool.or_false, e2 0]
      generalize decide (2 ≤ n) = A
      generalize decide (nm = []) = B
      generalize decide (ws = []) = C
      generalize decide (lo = 0 ∧ hi = 0) = D
      cases A <;> cases B <;> cases C <;> cases D <;> rfl
    · have o1 : opr (Int.toNat (8 : Int)) = ⟨wOr, false, false, false, 2, true⟩ := rfl
      rw [o1]
      unfold fnB fwB frB
      rw [if_neg (c := (8 : Int) = 3 ∨ (8 : Int) = 4 ∨ (8 : Int) = 5) (by decide), if_neg (c := (8 : Int) = 4) (by decide), if_neg (c := (8 : Int) = 5) (by decide), if_neg (c := (8 : Int) = 6) (by decide), if_pos (c := (8 : Int) = 7 ∨ (8 : Int) = 8) (by decide)]
      show (true && !(decide ((n : Int) < 2) || (decide ((2 : Int) < (n : Int)) && !true)) && (decide (nm = []) && decide (ws = []) && decide (lo = 0 ∧ hi = 0))) = _
      rw [Bool.not_true, Bool.and_false, Bool.or_false, e2 0]
      generalize decide (2 ≤ n) = A
      generalize decide (nm = []) = B
      generalize decide (ws = []) = C
      generalize decide (lo = 0 ∧ hi = 0) = D
      cases A <;> cases B <;> cases C <;> cases D <;> rfl
  · rw [decide_eq_false h]; simp
end Go.Proofs.YtjmipikahaoblaaGreatDoor.Syn
namespace Go.Proofs.YtjmipikahaoblaaGreatDoor.Syn
open Go.RowKit Go.Lib Go.Proofs.YtjmipikahaoblaaGreatDoor.Bas Go.Proofs.YtjmipikahaoblaaGreatDoor.Cal Go.Proofs.YtjmipikahaoblaaGreatDoor.Lx Go.Proofs.YtjmipikahaoblaaGreatDoor.Sc
set_option linter.unusedVariables false

theorem opr_lt (i : Nat) : 0 ≤ (opr i).lt ∧ (opr i).lt ≤ 2 := by
  unfold opr
  by_cases h : i < 9
  · rcases (show i = 0 ∨ i = 1 ∨ i = 2 ∨ i = 3 ∨ i = 4 ∨ i = 5 ∨ i = 6 ∨ i = 7 ∨ i = 8 by omega) with rfl | rfl | rfl | rfl | rfl | rfl | rfl | rfl | rfl <;> decide
  · have : opTab.getD i o0 = o0 := by rw [List.getD_eq_getElem?_getD, List.getElem?_eq_none (by show 9 ≤ i; omega)]; rfl
    rw [this]; decide
set_option maxRecDepth 8000 in
set_option maxHeartbeats 8000000 in
theorem fits_any (d : Nd) (u a : Value) (F : Fo) (w : World) (hO : OpsAt w) (hu : StrsAt w u d.ws) (hF : FoAt w a F) (hw : NdWf d) (hl : F.len ≤ 9223372036854775807) : Calls Tryz.prog 58 #[exV d u a] w (BB (nodeB d F.len) w) := by
  rw [← fit_node]
  have al := alloc_at w (xo d u a)
  have B0 := Lib.hid al
  have X0 := Lib.hid (XAt.new w d u a)
  have O0 := Lib.hid (hO.keep al)
  have U0 := Lib.hid (hu.below al)
  obtain ⟨⟨hnm, hws⟩, wop, wlo, whi⟩ := hw
  have hlo := Go.bounds_i64 wlo
  have hhi := Go.bounds_i64 whi
  have hop := Go.bounds_i64 wop
  obtain ⟨pu, cu, rfl, ⟨hcu, _⟩, _⟩ := hu
  obtain ⟨p, c, rfl, ⟨hc, _⟩, _⟩ := hF
  unfold exV
  have hws1 := hws.1
  obtain ⟨op, nm, ws, lo, hi⟩ := d
  simp only at *
  have hz : fitB ⟨op, nm, ws, lo, hi⟩ F.len = (decide (1 ≤ op ∧ op ≤ 8) && !(decide ((F.len : Int) < (opr op.toNat).lt) || (decide ((opr op.toNat).lt < (F.len : Int)) && !(opr op.toNat).mr)) && (fnB (opr op.toNat) nm && fwB (opr op.toNat) ws && frB (opr op.toNat) lo hi)) := rfl
  have hz' := Lib.hid hz
  generalize fitB ⟨op, nm, ws, lo, hi⟩ F.len = R at *
  generalize F.len = n at *
  clear hz
  by_cases h1 : op < 1
  · have t1 : decide (op < 1) = true := decide_eq_true h1
    have hR : R = false := by rw [hz'.out, decide_eq_false (by omega)]; rfl
    clear hz' X0 O0 U0 h1
    subst hR
    go_enter Tryz.func58, Tryz.ntmps58
    go_wp2_with fail
    go_ret
    exact ⟨rfl, B0.out⟩
  · have t1 : decide (op < 1) = false := decide_eq_false h1
    by_cases h8 : 8 < op
    · have t2 : decide ((8 : Int) < op) = true := decide_eq_true h8
      have hR : R = false := by rw [hz'.out, decide_eq_false (by omega)]; rfl
      clear hz' X0 O0 U0 h1 h8
      subst hR
      go_enter Tryz.func58, Tryz.ntmps58
      go_wp2_with fail
      go_ret
      exact ⟨rfl, B0.out⟩
    · have t2 : decide ((8 : Int) < op) = false := decide_eq_false h8
      have hin : decide (1 ≤ op ∧ op ≤ 8) = true := decide_eq_true (by omega)
      rw [hin] at hz'
      obtain ⟨k, rfl⟩ : ∃ k : Nat, op = k := ⟨op.toNat, by omega⟩
      rw [Int.toNat_natCast] at hz'
      have hk9 : k < 9 := by omega
      have cA := Lib.hid (fun w => fitsName_any (opr k) nm w hnm)
      have cB := Lib.hid (fun w h => fitsWords_any (opr k) (.slice pu ws.length cu) ws w h hws)
      have cC := Lib.hid (fun w => fitsRange_any (opr k) lo hi w hlo.1 hlo.2 hhi.1 hhi.2)
      have hlt := opr_lt k
      have hrow := Lib.hid (fun (W : World) (h : OpsAt W) => h k hk9)
      generalize opr k = o at *
      unfold opV at cA cB cC
      generalize fnB o nm = rA at *
      generalize fwB o ws = rB at *
      generalize frB o lo hi = rC at *
      obtain ⟨ow, onm, ols, org, olt, omr⟩ := o
      simp only at *
      generalize ws.length = nw at *
      go_enter Tryz.func58, Tryz.ntmps58
      go_upto_region 1 with fail
      obtain ⟨b1, hb1⟩ : ∃ b, w.heap.size = b := ⟨_, rfl⟩
      rw [hb1] at X0 ⊢
      clear hb1 al
      generalize w.alloc (xo ⟨(k : Int), nm, ws, lo, hi⟩ (.slice pu nw cu) (.slice p n c)) = W0 at *
      obtain ⟨_, x0, x1, x2, x3, x4, x5⟩ := X0.out
      obtain ⟨r0, r1, r2, r3, r4, r5⟩ := hrow.out W0 O0.out
      simp only at x0 x1 x3 x4 r0 r1 r2 r3 r4 r5
      go_upto_region 4 with fail
      clear r0 r1 r2 r3 r4 r5 x0 x1 x2 x3 x4 x5
      have al := alloc_at W0 (opO ⟨ow, onm, ols, org, olt, omr⟩)
      have B3 := Lib.hid (trans_b B0.out al)
      have O3 := OAt6.new W0 ⟨ow, onm, ols, org, olt, omr⟩
      have X3 := X0.out.keep al
      have U3 := Lib.hid (U0.out.below al)
      clear hrow O0 U0 B0 X0 al
      obtain ⟨b3, hb3⟩ : ∃ b, W0.heap.size = b := ⟨_, rfl⟩
      rw [hb3] at O3 ⊢
      clear hb3
      generalize W0.alloc (opO ⟨ow, onm, ols, org, olt, omr⟩) = W3 at *
      have X3' := Lib.hid X3
      have O3' := Lib.hid O3
      obtain ⟨_, x0, x1, x2, x3, x4, x5⟩ := X3
      obtain ⟨_, y0, y1, y2, y3, y4, y5⟩ := O3
      simp only at x0 x1 x3 x4 y0 y1 y2 y3 y4 y5
      by_cases g1 : (n : Int) < olt
      · have u1 : decide ((n : Int) < olt) = true := decide_eq_true g1
        have hR : R = false := by rw [hz'.out, u1]; rfl
        clear hz' cA cB cC g1
        subst hR
        go_wp2_with fail
        go_ret
        exact ⟨rfl, B3.out⟩
      · have u1 : decide ((n : Int) < olt) = false := decide_eq_false g1
        have hend : ∀ (hm : (decide (olt < (n : Int)) && !omr) = false), R = (rA && rB && rC) := fun hm => by rw [hz'.out, u1, hm]; simp
        by_cases g2 : olt < (n : Int)
        · have u2 : decide (olt < (n : Int)) = true := decide_eq_true g2
          cases omr with
          | false =>
            have hR : R = false := by rw [hz'.out, u2]; simp
            clear hz' hend cA cB cC g1 g2
            subst hR
            go_wp2_with fail
            go_ret
            exact ⟨rfl, B3.out⟩
          | true =>
            have hR := Lib.hid (hend (by rw [u2]; rfl))
            clear hend hz' g1 g2
            go_wp2_with fail
            refine (cA.out W3).mono ?_; rintro e W4 ⟨rfl, hB⟩
            have B4 := Lib.hid (trans_b B3.out hB)
            have U4 := Lib.hid (U3.out.below hB)
            obtain ⟨_, z0, z1, z2, z3, z4, z5⟩ := X3'.out.keep hB
            obtain ⟨_, w0, w1, w2, w3, w4, w5⟩ := O3'.out.keep hB
            have X4 := Lib.hid (X3'.out.keep hB)
            have O4 := Lib.hid (O3'.out.keep hB)
            simp only at z0 z1 z3 z4 w0 w1 w2 w3 w4 w5
            clear hB B3 U3 X3' O3' x0 x1 x2 x3 x4 x5 y0 y1 y2 y3 y4 y5 cA u1 u2
            cases rA with
            | false =>
              have hR2 : R = false := by rw [hR.out]; rfl
              subst hR2
              clear cB cC
              go_wp2_with fail
              go_ret
              exact ⟨rfl, B4.out⟩
            | true =>
              have cBx := Lib.hid (cB.out W4 U4.out)
              clear cB
              go_wp2_with fail
              refine cBx.out.mono ?_; rintro e W5 ⟨rfl, hB⟩
              clear z0 z1 z2 z3 z4 z5 w0 w1 w2 w3 w4 w5
              obtain ⟨_, z0, z1, z2, z3, z4, z5⟩ := X4.out.keep hB
              obtain ⟨_, w0, w1, w2, w3, w4, w5⟩ := O4.out.keep hB
              simp only at z0 z1 z3 z4 w0 w1 w2 w3 w4 w5
              have B5 := Lib.hid (trans_b B4.out hB)
              clear hB B4 U4 X4 O4 cBx
              cases rB with
              | false =>
                have hR2 : R = false := by rw [hR.out]; rfl
                subst hR2
                clear cC
                go_wp2_with fail
                go_ret
                exact ⟨rfl, B5.out⟩
              | true =>
                have hR2 : R = rC := by rw [hR.out]; rfl
                subst hR2
                go_wp2_with fail
                refine (cC.out W5).mono ?_; rintro e W6 ⟨rfl, hB⟩
                have B6 := Lib.hid (trans_b B5.out hB)
                clear hB B5 cC z0 z1 z2 z3 z4 z5 w0 w1 w2 w3 w4 w5
                go_wp2_with fail
                go_ret
                exact ⟨rfl, B6.out⟩
        · have u2 : decide (olt < (n : Int)) = false := decide_eq_false g2
          have hR := Lib.hid (hend (by rw [u2]; rfl))
          clear hend hz' g1 g2
          go_wp2_with fail
          refine (cA.out W3).mono ?_; rintro e W4 ⟨rfl, hB⟩
          have B4 := Lib.hid (trans_b B3.out hB)
          have U4 := Lib.hid (U3.out.below hB)
          obtain ⟨_, z0, z1, z2, z3, z4, z5⟩ := X3'.out.keep hB
          obtain ⟨_, w0, w1, w2, w3, w4, w5⟩ := O3'.out.keep hB
          have X4 := Lib.hid (X3'.out.keep hB)
          have O4 := Lib.hid (O3'.out.keep hB)
          simp only at z0 z1 z3 z4 w0 w1 w2 w3 w4 w5
          clear hB B3 U3 X3' O3' x0 x1 x2 x3 x4 x5 y0 y1 y2 y3 y4 y5 cA u1 u2
          cases rA with
          | false =>
            have hR2 : R = false := by rw [hR.out]; rfl
            subst hR2
            clear cB cC
            go_wp2_with fail
            go_ret
            exact ⟨rfl, B4.out⟩
          | true =>
            have cBx := Lib.hid (cB.out W4 U4.out)
            clear cB
            go_wp2_with fail
            refine cBx.out.mono ?_; rintro e W5 ⟨rfl, hB⟩
            clear z0 z1 z2 z3 z4 z5 w0 w1 w2 w3 w4 w5
            obtain ⟨_, z0, z1, z2, z3, z4, z5⟩ := X4.out.keep hB
            obtain ⟨_, w0, w1, w2, w3, w4, w5⟩ := O4.out.keep hB
            simp only at z0 z1 z3 z4 w0 w1 w2 w3 w4 w5
            have B5 := Lib.hid (trans_b B4.out hB)
            clear hB B4 U4 X4 O4 cBx
            cases rB with
            | false =>
              have hR2 : R = false := by rw [hR.out]; rfl
              subst hR2
              clear cC
              go_wp2_with fail
              go_ret
              exact ⟨rfl, B5.out⟩
            | true =>
              have hR2 : R = rC := by rw [hR.out]; rfl
              subst hR2
              go_wp2_with fail
              refine (cC.out W5).mono ?_; rintro e W6 ⟨rfl, hB⟩
              have B6 := Lib.hid (trans_b B5.out hB)
              clear hB B5 cC z0 z1 z2 z3 z4 z5 w0 w1 w2 w3 w4 w5
              go_wp2_with fail
              go_ret
              exact ⟨rfl, B6.out⟩
/-- What valid leaves. -/
def goodB (e : Ex) (n : Int) (D : Nat) : Bool := exB e && decide (e.depth ≤ D) && decide ((e.size : Int) ≤ n)
end Go.Proofs.YtjmipikahaoblaaGreatDoor.Syn
namespace Go.Proofs.YtjmipikahaoblaaGreatDoor.Syn
open Go.RowKit Go.Lib Go.Proofs.YtjmipikahaoblaaGreatDoor.Bas Go.Proofs.YtjmipikahaoblaaGreatDoor.Cal Go.Proofs.YtjmipikahaoblaaGreatDoor.Lx Go.Proofs.YtjmipikahaoblaaGreatDoor.Sc
set_option linter.unusedVariables false

theorem deep_le : ∀ (F : Fo) (n : Nat), F.deep ≤ n ↔ ∀ j, j < F.len → (F.get j).depth ≤ n
  | .nil, n => ⟨fun _ j hj => by rw [Fo.len] at hj; omega, fun _ => Nat.zero_le _⟩
  | .cons d k r, n => by
    constructor
    · intro h j hj
      have := Fo.depth_get_le (.cons d k r) j hj
      omega
    · intro h
      rw [Fo.deep]
      have h0 := h 0 (by rw [Fo.len]; omega)
      rw [Fo.get_zero] at h0
      have h1 := (deep_le r n).2 fun j hj => by
        have := h (j + 1) (by rw [Fo.len]; omega)
        rwa [Fo.get_succ] at this
      have h2 : 1 + k.deep ≤ n := h0
      omega
theorem Fo.sizes_take_mono (F : Fo) (j k : Nat) (hjk : j ≤ k) (hk : k ≤ F.len) : (F.take j).sizes ≤ (F.take k).sizes := by
  induction k with
  | zero => obtain rfl : j = 0 := by omega
            exact Nat.le_refl _
  | succ k ih =>
    by_cases e : j = k + 1
    · subst e; exact Nat.le_refl _
    · have h1 := ih (by omega) (by omega)
      have h2 := Fo.sizes_take_succ F k (by omega)
      omega
/-- The first k arguments are good. -/
def GK (F : Fo) (n : Int) (D k : Nat) : Prop := (∀ j, j < k → exB (F.get j) = true ∧ (F.get j).depth ≤ D) ∧ ((F.take k).sizes : Int) ≤ n - 1
theorem good_iff (d : Nd) (F : Fo) (n : Int) (D : Nat) (hd : nodeB d F.len = true) : goodB ⟨d, F⟩ n (D + 1) = true ↔ GK F n D F.len := by
  have hx : exB ⟨d, F⟩ = nodesB F := by unfold exB; rw [hd]; rfl
  have hdp : (⟨d, F⟩ : Ex).depth = 1 + F.deep := rfl
  have hsz : (⟨d, F⟩ : Ex).size = 1 + F.sizes := rfl
  unfold goodB GK
  rw [hx, hdp, hsz]
  simp only [Bool.and_eq_true, decide_eq_true_eq]
  rw [Fo.nodes_get, Fo.take_len]
  have h1 : 1 + F.deep ≤ D + 1 ↔ F.deep ≤ D := by omega
  have h2 : ((1 + F.sizes : Nat) : Int) ≤ n ↔ (F.sizes : Int) ≤ n - 1 := by omega
  rw [h1, h2, deep_le]
  constructor
  · rintro ⟨⟨a, b⟩, c⟩; exact ⟨fun j hj => ⟨a j hj, b j hj⟩, c⟩
  · rintro ⟨a, c⟩; exact ⟨⟨fun j hj => (a j hj).1, fun j hj => (a j hj).2⟩, c⟩
theorem gk_succ (F : Fo) (n : Int) (D k : Nat) (hk : k < F.len) (s : Int) (h : GK F n D k) (hs : s = n - 1 - ((F.take k).sizes : Int)) : (goodB (F.get k) s D = true → GK F n D (k + 1) ∧ s - ((F.get k).size : Int) = n - 1 - ((F.take (k + 1)).sizes : Int) ∧ ((F.get k).size : Int) ≤ s) ∧ (goodB (F.get k) s D = false → ¬ GK F n D (k + 1)) := by
  have h2 := Fo.sizes_take_succ F k hk
  have hg : goodB (F.get k) s D = true ↔ (exB (F.get k) = true ∧ (F.get k).depth ≤ D) ∧ ((F.get k).size : Int) ≤ s := by
    unfold goodB; simp only [Bool.and_eq_true, decide_eq_true_eq]
  constructor
  · intro hh
    obtain ⟨⟨a, b⟩, c⟩ := hg.1 hh
    refine ⟨⟨fun j hj => ?_, by omega⟩, by omega, c⟩
    by_cases e : j = k
    · subst e; exact ⟨a, b⟩
    · exact h.1 j (by omega)
  · intro hh hn
    have := hg.2 ⟨hn.1 k (by omega), by have := hn.2; omega⟩
    rw [hh] at this; cases this
theorem gk_mono (F : Fo) (n : Int) (D k : Nat) (hk : k ≤ F.len) (h : GK F n D F.len) : GK F n D k := by
  refine ⟨fun j hj => h.1 j (by omega), ?_⟩
  have := Fo.sizes_take_mono F k F.len hk (Nat.le_refl _)
  have := h.2
  omega
theorem good_no0 (e : Ex) (n : Int) : goodB e n 0 = false := by
  unfold goodB Ex.depth
  rw [decide_eq_false (by omega), Bool.and_false]; rfl
theorem good_node (d : Nd) (F : Fo) (n : Int) (D : Nat) (hd : nodeB d F.len = false) : goodB ⟨d, F⟩ n D = false := by
  unfold goodB exB; rw [hd]; rfl
def valV (e : Ex) (n : Int) (D : Nat) : Int := if goodB e n D = true then n - e.size else -1
theorem valV_no {e : Ex} {n : Int} {D : Nat} (h : goodB e n D = false) : valV e n D = -1 := by unfold valV; rw [if_neg (by simp [h])]
theorem valV_yes {e : Ex} {n : Int} {D : Nat} (h : goodB e n D = true) : valV e n D = n - e.size := by unfold valV; rw [if_pos h]
set_option maxRecDepth 8000 in
set_option maxHeartbeats 16000000 in
theorem valid_any : ∀ (D : Nat) (e : Ex) (v : Value) (w : World) (n : Int), D ≤ 16 → 0 ≤ n → n ≤ 300 → OpsAt w → ExAt w v e → ExWf e → Calls Tryz.prog 38 #[v, .int .i64 n, .int .i64 D] w (ErrBe (valV e n D) w) := by
  intro D
  induction D with
  | zero =>
    intro e v w n _ hn0 hn1 hO h hw
    rw [valV_no (good_no0 e n)]
    obtain ⟨u, a, rfl, hu, hF⟩ := h
    have B0 := Lib.hid (alloc_at w (xo e.d u a))
    obtain ⟨pu, cu, rfl, _, _⟩ := hu
    obtain ⟨p, c, rfl, _, _⟩ := hF
    unfold exV
    generalize e.d.ws.length = nw at *
    generalize e.kids.len = nk at *
    go_enter Tryz.func38, Tryz.ntmps38
    go_wp2_with fail
    go_ret
    exact ⟨rfl, B0.out⟩
  | succ D ih =>
    intro e v w n hD hn0 hn1 hO h hw
    obtain ⟨u, a, rfl, hu, hF⟩ := h
    obtain ⟨hwd, hwl, hwk⟩ := hw
    have al := alloc_at w (xo e.d u a)
    have B0 := Lib.hid al
    have X0 := Lib.hid (XAt.new w e.d u a)
    have F0 := Lib.hid (hF.below al)
    have O0 := Lib.hid (hO.keep al)
    have cF := Lib.hid (fits_any e.d u a e.kids (w.alloc (xo e.d u a)) (hO.keep al) (hu.below al).at (hF.below al) hwd hwl)
    have hgn := Lib.hid (good_node e.d e.kids n (D + 1))
    have hgi := Lib.hid (good_iff e.d e.kids n D)
    have hgs := Lib.hid (gk_succ e.kids n D)
    have hgm := Lib.hid (gk_mono e.kids n D)
    have hwk' := Lib.hid (fun j hj => FoWf.get e.kids j hwk hj)
    have hz0 : (e.kids.take 0).sizes = 0 := rfl
    have hsz : (e.size : Int) = 1 + (e.kids.sizes : Int) := by unfold Ex.size; omega
    have htl := Lib.hid (show (e.kids.take e.kids.len).sizes = e.kids.sizes from by rw [Fo.take_len])
    have hyes := Lib.hid (show goodB e n (D + 1) = true → valV e n (D + 1) = n - e.size from valV_yes)
    have hno := Lib.hid (show goodB e n (D + 1) = false → valV e n (D + 1) = -1 from valV_no)
    obtain ⟨pu, cu, rfl, _, _⟩ := hu
    obtain ⟨p, c, rfl, _, _⟩ := hF
    unfold exV at cF ⊢
    generalize valV e n (D + 1) = R at *
    have hee : goodB e n (D + 1) = goodB ⟨e.d, e.kids⟩ n (D + 1) := rfl
    rw [hee] at hyes hno
    generalize goodB ⟨e.d, e.kids⟩ n (D + 1) = gb at *
    generalize e.size = sz at *
    obtain ⟨F, hFe⟩ : ∃ F, e.kids = F := ⟨_, rfl⟩
    rw [hFe] at B0 X0 F0 O0 cF hgn hgi hgs hgm hwk' hz0 htl hwl hsz ⊢
    clear hFe hwk hee al hO hwd
    generalize e.d = d at *
    generalize d.ws.length = nw at *
    obtain ⟨m, hm⟩ : ∃ m, F.len = m := ⟨_, rfl⟩
    have hm' := Lib.hid hm
    rw [hm] at B0 X0 F0 O0 cF hgn hgi hgs hgm hwk' htl hwl ⊢
    clear hm
    generalize nodeB d m = nb at *
    have t0 : (((D : Int) + 1) == 0) = false := by simp; omega
    have e1 : IntKind.i64.wrap (n - 1) = n - 1 := IntWalk.i64_in _ (by omega)
    have hDc : ((D + 1 : Nat) : Int) = (D : Int) + 1 := by omega
    rw [hDc]
    have e2 : IntKind.i64.wrap ((D : Int) + 1 - 1) = (D : Int) := by rw [show (D : Int) + 1 - 1 = (D : Int) by omega]; exact IntWalk.i64_in _ (by omega)
    clear hDc
    go_enter Tryz.func38, Tryz.ntmps38
    go_upto_region 1 with fail
    obtain ⟨b0, hb0⟩ : ∃ b, w.heap.size = b := ⟨_, rfl⟩
    rw [hb0] at X0 ⊢
    clear hb0
    generalize w.alloc (xo d (.slice pu nw cu) (.slice p m c)) = W0 at *
    obtain ⟨_, x0, x1, x2, x3, x4, x5⟩ := X0.out
    go_wp2_with fail
    refine cF.out.mono ?_; rintro e w1 ⟨rfl, hB1⟩
    have B1 := Lib.hid (trans_b B0.out hB1)
    have X1 := Lib.hid (X0.out.keep hB1)
    have F1 := Lib.hid (F0.out.below hB1)
    have O1 := Lib.hid (O0.out.keep hB1)
    clear hB1 x0 x1 x2 x3 x4 x5 B0 X0 F0 O0 cF
    cases nb with
    | false =>
      have hg := hgn.out rfl
      subst hg
      have hR := hno.out rfl
      subst hR
      clear hgi hgs hgm hwk' hyes hno
      go_wp2_with fail
      go_ret
      exact ⟨rfl, B1.out⟩
    | true =>
      have hgi2 := Lib.hid (hgi.out rfl)
      have x5 := X1.out.2.2.2.2.2.2
      clear hgn hgi
      go_wp2_with fail
      go_loopw [1, 21] (fun x1 x21 wr => ∃ (k : Nat) (s : Int), k ≤ m ∧ x21 = .int .i64 k ∧ x1 = .int .i64 s ∧ -1 ≤ s ∧ s ≤ 300 ∧ Hid (GK F n D k ∧ s = n - 1 - ((F.take k).sizes : Int) ∨ ¬ GK F n D k ∧ s = -1) ∧ Hid (Below w1.heap.size w1 wr)) (fun _ x _ => m - (RowKit.intOf x).toNat)
      case atStart =>
        refine ⟨0, n - 1, Nat.zero_le _, rfl, rfl, by omega, by omega, Lib.hid ?_, Lib.hid (Below.refl _ _)⟩
        by_cases h1 : 1 ≤ n
        · exact .inl ⟨⟨fun j hj => absurd hj (Nat.not_lt_zero _), by rw [hz0]; omega⟩, by rw [hz0]; omega⟩
        · exact .inr ⟨fun h => by have := h.2; rw [hz0] at this; omega, by omega⟩
      case round =>
        obtain ⟨k, s, hk, rfl, rfl, hs0, hs1, hG, hB⟩ := hrel
        by_cases hlt : k < m
        · obtain ⟨b, o, c', hv, _, hbl, ue, ae, y0, y1, y2, y3, y4, y5, z1, z2⟩ := (F1.out.below hB.out).elem k (by rw [hm'.out]; exact hlt)
          obtain ⟨rfl, hmm, rfl⟩ := Value.slice.inj hv
          clear hmm hv
          have hk64 : IntKind.i64.wrap ((k : Int) + 1) = (k : Int) + 1 := IntWalk.i64_in _ (by omega)
          have hx := Lib.hid (show ExS Any wr (exV (F.get k).d ue ae) (F.get k) from ⟨ue, ae, rfl, z1, z2⟩)
          have hwf := Lib.hid (hwk'.out k hlt)
          obtain ⟨q1, k1, rfl, _, _⟩ := z1
          obtain ⟨q2, k2, rfl, _, _⟩ := z2
          have B2 := Lib.hid (hB.out.alloc hB.out.size (xo (F.get k).d (.slice q1 (F.get k).d.ws.length k1) (.slice q2 (F.get k).kids.len k2)))
          have hal := alloc_at wr (xo (F.get k).d (.slice q1 (F.get k).d.ws.length k1) (.slice q2 (F.get k).kids.len k2))
          have K1 := XAt.new wr (F.get k).d (.slice q1 (F.get k).d.ws.length k1) (.slice q2 (F.get k).kids.len k2)
          clear x5
          go_upto_region 7 with fail
          clear y0 y1 y2 y3 y4 y5
          obtain ⟨b8, hb8⟩ : ∃ b, wr.heap.size = b := ⟨_, rfl⟩
          rw [hb8] at K1 ⊢
          clear hb8
          have hx2 := Lib.hid (hx.out.below hal)
          have O2 := Lib.hid ((O1.out.keep hB.out).keep hal)
          clear hx hal hB
          generalize wr.alloc (xo (F.get k).d (.slice q1 (F.get k).d.ws.length k1) (.slice q2 (F.get k).kids.len k2)) = W2 at *
          by_cases hneg : s < 0
          · have u1 : decide (s < 0) = true := decide_eq_true hneg
            have hng : ¬ GK F n D k := by
              rcases hG.out with ⟨h1, h2⟩ | ⟨h1, h2⟩
              · have := h1.2; omega
              · exact h1
            have hs : s = -1 := by omega
            have hgb : gb = false := by
              cases hgb : gb with
              | false => rfl
              | true => exact absurd (hgm.out k (by omega) (hgi2.out.1 hgb)) hng
            have hR := hno.out hgb
            have hRs := Lib.hid (show R = s from by rw [hR, hs])
            have B3 := Lib.hid (B1.out.trans (B2.out.mono B1.out.size))
            clear hs hneg hgb hng hR hgi2 hgs hgm hyes hno hG K1
            go_wp2_with fail
            go_ret
            exact ⟨ret_i hRs.out.symm, B3.out⟩
          · have u1 : decide (s < 0) = false := decide_eq_false hneg
            obtain ⟨hGk, hsk⟩ : GK F n D k ∧ s = n - 1 - ((F.take k).sizes : Int) := by
              rcases hG.out with h1 | ⟨h1, h2⟩
              · exact h1
              · omega
            have cV := Lib.hid (ih (F.get k) _ W2 s (by omega) (by omega) hs1 O2.out hx2.out hwf.out)
            obtain ⟨hy2, hn2⟩ := hgs.out k hlt s hGk hsk
            have hres := Lib.hid (show (-1 ≤ valV (F.get k) s D ∧ valV (F.get k) s D ≤ 300) ∧ (GK F n D (k + 1) ∧ valV (F.get k) s D = n - 1 - ((F.take (k + 1)).sizes : Int) ∨ ¬ GK F n D (k + 1) ∧ valV (F.get k) s D = -1) from by
              cases hq : goodB (F.get k) s D with
              | true =>
                obtain ⟨a1, a2, a3⟩ := hy2 hq
                rw [valV_yes hq]
                have := size_pos (F.get k)
                exact ⟨⟨by omega, by omega⟩, .inl ⟨a1, a2⟩⟩
              | false =>
                rw [valV_no hq]
                exact ⟨⟨by decide, by decide⟩, .inr ⟨hn2 hq, rfl⟩⟩)
            unfold exV at cV
            obtain ⟨_, g0, g1, g2, g3, g4, g5⟩ := K1
            clear hG hGk hsk hy2 hn2 hx2 O2 hwf
            generalize valV (F.get k) s D = s' at *
            have hr1 := hres.out.1.1
            have hr2 := hres.out.1.2
            go_wp2_with fail
            refine cV.out.mono ?_; rintro e w3 ⟨rfl, hB3⟩
            have B3 := Lib.hid (B2.out.trans (hB3.mono B2.out.size))
            clear hB3 cV B2 g0 g1 g2 g3 g4 g5
            go_wp2_with fail
            go_roundw
            case rel => exact ⟨k + 1, s', by omega, by go_num, rfl, hr1, hr2, Lib.hid hres.out.2, B3⟩
            case measure => simp [RowKit.intOf]; omega
        · obtain rfl : k = m := by omega
          have hRs := Lib.hid (show R = s from by
            rcases hG.out with ⟨h1, h2⟩ | ⟨h1, h2⟩
            · have hgb := hgi2.out.2 h1
              rw [hyes.out hgb, h2, htl.out, hsz]; omega
            · have hgb : gb = false := by
                cases hgb : gb with
                | false => rfl
                | true => exact absurd (hgi2.out.1 hgb) h1
              rw [hno.out hgb, h2])
          have B3 := Lib.hid (B1.out.trans (hB.out.mono B1.out.size))
          go_wp2_with fail
          go_ret
          exact ⟨ret_i hRs.out.symm, B3.out⟩
theorem good_valid (e : Ex) : goodB e 300 16 = validB e := by
  unfold goodB validB
  have : decide ((e.size : Int) ≤ 300) = decide (e.size ≤ 300) := by
    by_cases h : e.size ≤ 300
    · rw [decide_eq_true h, decide_eq_true (by omega)]
    · rw [decide_eq_false h, decide_eq_false (by omega)]
  rw [this]
  cases exB e <;> cases decide (e.depth ≤ 16) <;> cases decide (e.size ≤ 300) <;> rfl
set_option maxHeartbeats 4000000 in
theorem pvalid_any (e : Ex) (v : Value) (w : World) (hO : OpsAt w) (h : ExAt w v e) (hw : ExWf e) : Calls Tryz.prog 15 #[v] w (BB (validB e) w) := by
  obtain ⟨u, a, rfl, hu, hF⟩ := h
  have al := alloc_at w (xo e.d u a)
  have B0 := Lib.hid al
  have X0 := XAt.new w e.d u a
  have cV := Lib.hid (valid_any 16 e (exV e.d u a) (w.alloc (xo e.d u a)) 300 (by decide) (by decide) (by decide) (hO.keep al) ⟨u, a, rfl, hu.below al, hF.below al⟩ hw)
  have hv := Lib.hid (show decide (0 ≤ valV e 300 16) = validB e from by
    rw [← good_valid]
    cases hq : goodB e 300 16 with
    | true =>
      rw [valV_yes hq]
      unfold goodB at hq
      simp only [Bool.and_eq_true, decide_eq_true_eq] at hq
      exact decide_eq_true (by omega)
    | false => rw [valV_no hq]; rfl)
  obtain ⟨pu, cu, rfl, _, _⟩ := hu
  obtain ⟨p, c, rfl, _, _⟩ := hF
  unfold exV at cV ⊢
  have hb : -1 ≤ valV e 300 16 := by unfold valV; split
                                     · rename_i hq; unfold goodB at hq; simp only [Bool.and_eq_true, decide_eq_true_eq] at hq; omega
                                     · decide
  generalize valV e 300 16 = R at *
  generalize validB e = Q at *
  generalize e.d.ws.length = nw at *
  generalize e.kids.len = nk at *
  go_enter Tryz.func15, Tryz.ntmps15
  go_upto_region 1 with fail
  obtain ⟨b0, hb0⟩ : ∃ b, w.heap.size = b := ⟨_, rfl⟩
  rw [hb0] at X0 ⊢
  clear hb0 al
  generalize w.alloc (xo e.d (.slice pu nw cu) (.slice p nk c)) = W0 at *
  obtain ⟨_, x0, x1, x2, x3, x4, x5⟩ := X0
  go_wp2_with fail
  refine cV.out.mono ?_; rintro e w1 ⟨rfl, hB1⟩
  have B1 := Lib.hid (trans_b B0.out hB1)
  clear hB1 B0 cV x0 x1 x2 x3 x4 x5
  by_cases hR : 0 ≤ R
  · have t1 : decide (0 ≤ R) = true := decide_eq_true hR
    have hQ := hv.out
    rw [t1] at hQ
    subst hQ
    go_wp2_with fail
    go_ret
    exact ⟨rfl, B1.out⟩
  · have t1 : decide (0 ≤ R) = false := decide_eq_false hR
    have hQ := hv.out
    rw [t1] at hQ
    subst hQ
    go_wp2_with fail
    go_ret
    exact ⟨rfl, B1.out⟩
end Go.Proofs.YtjmipikahaoblaaGreatDoor.Syn
namespace Go.Proofs.YtjmipikahaoblaaGreatDoor.Syn
open Go.RowKit Go.Lib Go.Proofs.YtjmipikahaoblaaGreatDoor.Bas Go.Proofs.YtjmipikahaoblaaGreatDoor.Cal Go.Proofs.YtjmipikahaoblaaGreatDoor.Lx Go.Proofs.YtjmipikahaoblaaGreatDoor.Sc
set_option linter.unusedVariables false

theorem FoWf.len_le {F : Fo} {n : Nat} (h : F.len ≤ n) : F.len ≤ n := h
set_option maxRecDepth 8000 in
set_option maxHeartbeats 8000000 in
theorem rsize_any : ∀ (n : Nat) (e : Ex) (v : Value) (w : World), e.size ≤ n → ExAt w v e → ExWf e → Calls Tryz.prog 29 #[v] w (ErrBe ((min e.size 301 : Nat) : Int) w) := by
  intro n
  induction n with
  | zero => intro e v w h; have := size_pos e; omega
  | succ n ih =>
    intro e v w hsz h hwf
    obtain ⟨u, a, rfl, hu, hF⟩ := h
    have B0 := Lib.hid (alloc_at w (xo e.d u a))
    have X0 := Lib.hid (XAt.new w e.d u a)
    have F0 := Lib.hid (hF.below B0.out)
    have hT := Lib.hid (fun k (hk : k < e.kids.len) => Fo.sizes_take_succ e.kids k hk)
    have hE := Lib.hid (show ∀ k, k = e.kids.len → 1 + (e.kids.take k).sizes = e.size from fun k hk => by rw [hk, Fo.take_len]; rfl)
    have hL := Lib.hid (show ∀ k, 1 + (e.kids.take k).sizes ≤ e.size from fun k => by have := Fo.sizes_take_le e.kids k; unfold Ex.size; omega)
    have hG := Lib.hid (show ∀ k, k < e.kids.len → (e.kids.get k).size ≤ n from fun k hk => by have := Fo.size_get_le e.kids k hk; unfold Ex.size at hsz; omega)
    have hW := Lib.hid (fun k (hk : k < e.kids.len) => FoWf.get e.kids k hwf.2.2 hk)
    have hlen : e.kids.len ≤ 9223372036854775807 := hwf.2.1
    have hz0 : (e.kids.take 0).sizes = 0 := rfl
    obtain ⟨pu, cu, rfl, _, _⟩ := hu
    obtain ⟨p, c, rfl, _, _⟩ := hF
    unfold exV
    generalize e.size = SZ at *
    obtain ⟨F, hFe⟩ : ∃ F, e.kids = F := ⟨_, rfl⟩
    rw [hFe] at B0 X0 F0 hT hE hL hG hW hlen hz0 ⊢
    clear hsz hFe hwf
    generalize e.d = d at *
    generalize d.ws.length = nw at *
    obtain ⟨m, hm⟩ : ∃ m, F.len = m := ⟨_, rfl⟩
    have hm' := Lib.hid hm
    rw [hm] at B0 X0 F0 hT hE hG hW hlen ⊢
    clear hm
    have hmin := Lib.hid (show ∀ s : Int, 0 ≤ s → (s ≤ 300 → s = (SZ : Int)) → (300 < s → 300 < SZ) → (if s ≤ 301 then s else 301) = ((min SZ 301 : Nat) : Int) from fun s h1 h2 h3 => by split <;> omega)
    obtain ⟨RR, hRR⟩ : ∃ R : Int, ((min SZ 301 : Nat) : Int) = R := ⟨_, rfl⟩
    rw [hRR] at hmin ⊢
    clear hRR
    go_enter Tryz.func29, Tryz.ntmps29
    go_upto_region 1 with fail
    obtain ⟨b0, hb0⟩ : ∃ b, w.heap.size = b := ⟨_, rfl⟩
    rw [hb0] at X0 ⊢
    clear hb0
    generalize w.alloc (xo d (.slice pu nw cu) (.slice p m c)) = W0 at *
    skip
    go_wp2_with fail
    go_loopw [3, 4] (fun x3 x9 wr => ∃ (k : Nat) (s : Int), k ≤ m ∧ x9 = .int .i64 k ∧ x3 = .int .i64 s ∧ 0 ≤ s ∧ s ≤ 601 ∧ Hid (s ≤ 300 → s = ((1 + (F.take k).sizes : Nat) : Int)) ∧ Hid (300 < s → 300 < 1 + (F.take k).sizes) ∧ Hid (Below W0.heap.size W0 wr)) (fun _ x9 _ => m - (RowKit.intOf x9).toNat)
    case atStart => exact ⟨0, 1, Nat.zero_le _, rfl, rfl, by decide, by decide, Lib.hid (fun _ => by rw [hz0]; rfl), Lib.hid (fun h => by omega), Lib.hid (Below.refl _ _)⟩
    case round =>
      obtain ⟨k, s, hk, rfl, rfl, hs0, hs1, hS, hS2, hB⟩ := hrel
      by_cases hlt : k < m
      · by_cases h300 : s ≤ 300
        · have t3 : decide (s ≤ 300) = true := decide_eq_true h300
          obtain ⟨b, o, c', hv, _, hbl, ue, ae, y0, y1, y2, y3, y4, y5, z1, z2⟩ := (F0.out.below hB.out).elem k (by rw [hm'.out]; exact hlt)
          obtain ⟨rfl, hmm, rfl⟩ := Value.slice.inj hv
          clear hmm
          have hk64 : IntKind.i64.wrap ((k : Int) + 1) = (k : Int) + 1 := IntWalk.i64_in _ (by omega)
          have hx := Lib.hid (show ExS Any wr (exV (F.get k).d ue ae) (F.get k) from ⟨ue, ae, rfl, z1, z2⟩)
          have hgn := hG.out k hlt
          have hT1 := hT.out k hlt
          obtain ⟨q1, k1, rfl, _, _⟩ := z1
          obtain ⟨q2, k2, rfl, _, _⟩ := z2
          clear hv
          have B1 := hB
          have cS := Lib.hid (ih (F.get k) _ _ hgn hx.out (hW.out k hlt))
          have x5 := (X0.out.keep hB.out).2.2.2.2.2.2
          have hgp := size_pos (F.get k)
          unfold exV at cS
          generalize (F.get k).size = gs at *
          obtain ⟨gm, hgm⟩ : ∃ g : Nat, min gs 301 = g := ⟨_, rfl⟩
          rw [hgm] at cS
          have hSn := Lib.hid (show 0 ≤ s + (gm : Int) ∧ s + (gm : Int) ≤ 601 ∧ (s + (gm : Int) ≤ 300 → s + (gm : Int) = ((1 + (F.take (k + 1)).sizes : Nat) : Int)) ∧ (300 < s + (gm : Int) → 300 < 1 + (F.take (k + 1)).sizes) from by have := hS.out h300; omega)
          have hgm1 : gm ≤ 301 := by omega
          clear hT1 hgm hgn hgp
          go_wp2_with fail
          refine cS.out.mono ?_; rintro e w' ⟨rfl, hB2⟩
          have B2 := Lib.hid (B1.out.trans (hB2.mono B1.out.size))
          have hgb := hSn.out.2.1
          have hgb0 := hSn.out.1
          have e2 : IntKind.i64.wrap (s + (gm : Int)) = s + (gm : Int) := IntWalk.i64_in _ (by omega)
          clear hB2 B1 hB cS hS hS2 t3
          go_wp2_with fail
          go_roundw
          case rel => exact ⟨k + 1, s + (gm : Int), by omega, by go_num, rfl, hgb0, hgb, Lib.hid hSn.out.2.2.1, Lib.hid hSn.out.2.2.2, B2⟩
          case measure => simp [RowKit.intOf]; omega
        · have t3 : decide (s ≤ 300) = false := decide_eq_false h300
          have hr := Lib.hid (hmin.out s hs0 (fun h => absurd h h300) (fun h => by have := hS2.out h; have := hL.out k; omega))
          have x5 := (X0.out.keep hB.out).2.2.2.2.2.2
          clear hS hS2
          go_wp2_with fail
          all_goals
            go_ret
            exact ⟨ret_i (by have := hr.out; split at this <;> omega), B0.out.trans (hB.out.mono B0.out.size)⟩
      · have hEk := Lib.hid (hE.out k (by omega))
        have hr := Lib.hid (hmin.out s hs0 (fun h => by have := hS.out h; have := hEk.out; omega) (fun h => by have := hS2.out h; have := hEk.out; omega))
        have x5 := (X0.out.keep hB.out).2.2.2.2.2.2
        clear hS hS2
        go_wp2_with fail
        all_goals
          go_ret
          exact ⟨ret_i (by have := hr.out; split at this <;> omega), B0.out.trans (hB.out.mono B0.out.size)⟩
set_option maxRecDepth 8000 in
set_option maxHeartbeats 8000000 in
theorem rdeeper_any : ∀ (n : Nat) (e : Ex) (v : Value) (w : World), n ≤ 1000 → ExAt w v e → ExWf e → Calls Tryz.prog 39 #[v, .int .i64 n] w (BB (decide (n < e.depth)) w) := by
  intro n
  induction n with
  | zero =>
    intro e v w _ h hwf
    obtain ⟨u, a, rfl, hu, hF⟩ := h
    have B0 := Lib.hid (alloc_at w (xo e.d u a))
    have hp : decide (0 < e.depth) = true := decide_eq_true (by unfold Ex.depth; omega)
    rw [hp]
    clear hp
    obtain ⟨pu, cu, rfl, _, _⟩ := hu
    obtain ⟨p, c, rfl, _, _⟩ := hF
    unfold exV
    clear hwf
    generalize e.kids.len = m at *
    generalize e.d = d at *
    generalize d.ws.length = nw at *
    have h0 : ((0 : Nat) : Int) = 0 := rfl
    rw [h0]
    clear h0
    go_enter Tryz.func39, Tryz.ntmps39
    go_wp2_with fail
    go_ret
    exact ⟨rfl, B0.out⟩
  | succ n ih =>
    intro e v w hn h hwf
    obtain ⟨u, a, rfl, hu, hF⟩ := h
    have B0 := Lib.hid (alloc_at w (xo e.d u a))
    have X0 := Lib.hid (XAt.new w e.d u a)
    have F0 := Lib.hid (hF.below B0.out)
    have hYes := Lib.hid (show ∀ k, k < e.kids.len → n < (e.kids.get k).depth → decide (n + 1 < e.depth) = true from fun k hk h => decide_eq_true (by have := Fo.depth_get_le e.kids k hk; unfold Ex.depth at *; omega))
    have hNo := Lib.hid (show (∀ k, k < e.kids.len → (e.kids.get k).depth ≤ n) → decide (n + 1 < e.depth) = false from fun h => decide_eq_false (by have := (deep_le e.kids n).2 h; unfold Ex.depth; omega))
    have hW := Lib.hid (fun k (hk : k < e.kids.len) => FoWf.get e.kids k hwf.2.2 hk)
    have hlen : e.kids.len ≤ 9223372036854775807 := hwf.2.1
    obtain ⟨pu, cu, rfl, _, _⟩ := hu
    obtain ⟨p, c, rfl, _, _⟩ := hF
    unfold exV
    generalize decide (n + 1 < e.depth) = R at *
    obtain ⟨F, hFe⟩ : ∃ F, e.kids = F := ⟨_, rfl⟩
    rw [hFe] at B0 X0 F0 hYes hNo hW hlen ⊢
    clear hFe hwf
    generalize e.d = d at *
    generalize d.ws.length = nw at *
    obtain ⟨m, hm⟩ : ∃ m, F.len = m := ⟨_, rfl⟩
    have hm' := Lib.hid hm
    rw [hm] at B0 X0 F0 hYes hNo hW hlen ⊢
    clear hm
    have e1 : IntKind.i64.wrap (((n + 1 : Nat) : Int) - 1) = (n : Int) := by rw [IntWalk.i64_in _ (by omega)]; omega
    obtain ⟨n1, hn1⟩ : ∃ x : Int, ((n + 1 : Nat) : Int) = x := ⟨_, rfl⟩
    have hn1p : 0 < n1 := by omega
    have tn1 : (n1 == 0) = false := by simp; omega
    rw [hn1] at e1 ⊢
    clear hn1
    go_enter Tryz.func39, Tryz.ntmps39
    go_upto_region 1 with fail
    obtain ⟨b0, hb0⟩ : ∃ b, w.heap.size = b := ⟨_, rfl⟩
    rw [hb0] at X0 ⊢
    clear hb0
    generalize w.alloc (xo d (.slice pu nw cu) (.slice p m c)) = W0 at *
    skip
    go_wp2_with fail
    go_loopw [5] (fun x9 wr => ∃ (k : Nat), k ≤ m ∧ x9 = .int .i64 k ∧ Hid (∀ j, j < k → (F.get j).depth ≤ n) ∧ Hid (Below W0.heap.size W0 wr)) (fun x9 _ => m - (RowKit.intOf x9).toNat)
    case atStart => exact ⟨0, Nat.zero_le _, rfl, Lib.hid (fun j hj => absurd hj (Nat.not_lt_zero _)), Lib.hid (Below.refl _ _)⟩
    case round =>
      obtain ⟨k, hk, rfl, hS, hB⟩ := hrel
      by_cases hlt : k < m
      · obtain ⟨b, o, c', hv, _, hbl, ue, ae, y0, y1, y2, y3, y4, y5, z1, z2⟩ := (F0.out.below hB.out).elem k (by rw [hm'.out]; exact hlt)
        obtain ⟨rfl, hmm, rfl⟩ := Value.slice.inj hv
        clear hmm
        have hk64 : IntKind.i64.wrap ((k : Int) + 1) = (k : Int) + 1 := IntWalk.i64_in _ (by omega)
        have hx := Lib.hid (show ExS Any wr (exV (F.get k).d ue ae) (F.get k) from ⟨ue, ae, rfl, z1, z2⟩)
        obtain ⟨q1, k1, rfl, _, _⟩ := z1
        obtain ⟨q2, k2, rfl, _, _⟩ := z2
        clear hv
        have B1 := hB
        have cS := Lib.hid (ih (F.get k) _ _ (by omega) hx.out (hW.out k hlt))
        have x5 := (X0.out.keep hB.out).2.2.2.2.2.2
        have hyes := Lib.hid (hYes.out k hlt)
        have hno := Lib.hid (show (F.get k).depth ≤ n → ∀ j, j < k + 1 → (F.get j).depth ≤ n from fun h j hj => by
          by_cases e : j = k
          · rw [e]; exact h
          · exact hS.out j (by omega))
        unfold exV at cS
        by_cases hdp : n < (F.get k).depth
        · rw [decide_eq_true hdp] at cS
          have hR := Lib.hid (hyes.out hdp)
          clear hyes hno
          generalize (F.get k).d = dk at *
          go_wp2_with fail
          refine cS.out.mono ?_; rintro e w' ⟨rfl, hB2⟩
          have B2 := Lib.hid (B1.out.trans (hB2.mono B1.out.size))
          clear hB2 B1 hB cS hS
          go_wp2_with fail
          go_ret
          exact ⟨ret_b hR.out.symm, B0.out.trans (B2.out.mono B0.out.size)⟩
        · rw [decide_eq_false hdp] at cS
          have hR := Lib.hid (hno.out (by omega))
          clear hyes hno hdp
          go_wp2_with fail
          refine cS.out.mono ?_; rintro e w' ⟨rfl, hB2⟩
          have B2 := Lib.hid (B1.out.trans (hB2.mono B1.out.size))
          clear hB2 B1 hB cS hS
          go_wp2_with fail
          go_roundw
          case rel => exact ⟨k + 1, by omega, by go_num, hR, B2⟩
          case measure => simp [RowKit.intOf]; omega
      · have hR := Lib.hid (hNo.out (fun j hj => hS.out j (by omega)))
        have x5 := (X0.out.keep hB.out).2.2.2.2.2.2
        go_wp2_with fail
        go_ret
        exact ⟨ret_b hR.out.symm, B0.out.trans (hB.out.mono B0.out.size)⟩
def NodeOf : Prop := ∀ (d : Nd) (u a : Value) (F : Fo) (w : World), StrsAt w u d.ws → FoAt w a F → NdWf d → F.len ≤ 9223372036854775807 → Calls Tryz.prog 59 #[exV d u a] w (BB (nodeB d F.len) w)
set_option maxRecDepth 8000 in
set_option maxHeartbeats 8000000 in
theorem rnodes_of (hnode : NodeOf) : ∀ (n : Nat) (e : Ex) (v : Value) (w : World), e.size ≤ n → ExAt w v e → ExWf e → Calls Tryz.prog 40 #[v] w (BB (exB e) w) := by
  intro n
  induction n with
  | zero => intro e v w h; have := size_pos e; omega
  | succ n ih =>
    intro e v w hsz h hwf
    obtain ⟨u, a, rfl, hu, hF⟩ := h
    have B0 := Lib.hid (alloc_at w (xo e.d u a))
    have X0 := Lib.hid (XAt.new w e.d u a)
    have F0 := Lib.hid (hF.below B0.out)
    have cN := Lib.hid (hnode e.d u a e.kids (w.alloc (xo e.d u a)) (hu.below B0.out).at (hF.below B0.out).at hwf.1 hwf.2.1)
    have hG := Lib.hid (show ∀ k, k < e.kids.len → (e.kids.get k).size ≤ n from fun k hk => by have := Fo.size_get_le e.kids k hk; unfold Ex.size at hsz; omega)
    have hNo := Lib.hid (show nodeB e.d e.kids.len = false → exB e = false from fun h => by unfold exB; rw [h]; rfl)
    have hNo2 := Lib.hid (show ∀ k, k < e.kids.len → exB (e.kids.get k) = false → exB e = false from fun k hk h => by
      unfold exB
      have : nodesB e.kids = false := by
        cases hh : nodesB e.kids with
        | false => rfl
        | true => rw [(Fo.nodes_get e.kids).1 hh k hk] at h; cases h
      rw [this, Bool.and_false])
    have hYes := Lib.hid (show nodeB e.d e.kids.len = true → (∀ k, k < e.kids.len → exB (e.kids.get k) = true) → exB e = true from fun h h2 => by unfold exB; rw [h, (Fo.nodes_get e.kids).2 h2]; rfl)
    have hW := Lib.hid (fun k (hk : k < e.kids.len) => FoWf.get e.kids k hwf.2.2 hk)
    have hlen : e.kids.len ≤ 9223372036854775807 := hwf.2.1
    obtain ⟨pu, cu, rfl, _, _⟩ := hu
    obtain ⟨p, c, rfl, _, _⟩ := hF
    unfold exV at cN ⊢
    generalize exB e = R at *
    obtain ⟨F, hFe⟩ : ∃ F, e.kids = F := ⟨_, rfl⟩
    rw [hFe] at B0 X0 F0 hG hYes hNo hNo2 hW hlen cN ⊢
    clear hsz hFe hwf
    generalize e.d = d at *
    obtain ⟨m, hm⟩ : ∃ m, F.len = m := ⟨_, rfl⟩
    have hm' := Lib.hid hm
    rw [hm] at B0 X0 F0 hG hYes hNo hNo2 hW hlen cN ⊢
    clear hm
    cases hN : nodeB d m with
    | false =>
      rw [hN] at cN
      have hR := Lib.hid (hNo.out hN)
      clear hYes hNo hNo2 hN
      generalize d.ws.length = nw at *
      go_enter Tryz.func40, Tryz.ntmps40
      go_wp2_with fail
      refine cN.out.mono ?_; rintro e w' ⟨rfl, hB2⟩
      have B2 := Lib.hid (B0.out.trans (hB2.mono B0.out.size))
      clear hB2 cN
      go_wp2_with fail
      go_ret
      exact ⟨ret_b hR.out.symm, B2.out⟩
    | true =>
      rw [hN] at cN
      have hY := Lib.hid (hYes.out hN)
      clear hYes hNo hN
      generalize d.ws.length = nw at *
      go_enter Tryz.func40, Tryz.ntmps40
      go_wp2_with fail
      obtain ⟨b0, hb0⟩ : ∃ b, w.heap.size = b := ⟨_, rfl⟩
      rw [hb0] at X0 ⊢
      clear hb0
      generalize w.alloc (xo d (.slice pu nw cu) (.slice p m c)) = W0 at *
      refine cN.out.mono ?_; rintro e w' ⟨rfl, hB2⟩
      have B2 := Lib.hid hB2
      clear hB2 cN
      go_wp2_with fail
      go_loopw [3] (fun x9 wr => ∃ (k : Nat), k ≤ m ∧ x9 = .int .i64 k ∧ Hid (∀ j, j < k → exB (F.get j) = true) ∧ Hid (Below W0.heap.size W0 wr)) (fun x9 _ => m - (RowKit.intOf x9).toNat)
      case atStart => exact ⟨0, Nat.zero_le _, rfl, Lib.hid (fun j hj => absurd hj (Nat.not_lt_zero _)), B2⟩
      case round =>
        obtain ⟨k, hk, rfl, hS, hB⟩ := hrel
        by_cases hlt : k < m
        · obtain ⟨b, o, c', hv, _, hbl, ue, ae, y0, y1, y2, y3, y4, y5, z1, z2⟩ := (F0.out.below hB.out).elem k (by rw [hm'.out]; exact hlt)
          obtain ⟨rfl, hmm, rfl⟩ := Value.slice.inj hv
          clear hmm
          have hk64 : IntKind.i64.wrap ((k : Int) + 1) = (k : Int) + 1 := IntWalk.i64_in _ (by omega)
          have hx := Lib.hid (show ExS Any wr (exV (F.get k).d ue ae) (F.get k) from ⟨ue, ae, rfl, z1, z2⟩)
          obtain ⟨q1, k1, rfl, _, _⟩ := z1
          obtain ⟨q2, k2, rfl, _, _⟩ := z2
          clear hv
          have B1 := hB
          have cS := Lib.hid (ih (F.get k) _ _ (hG.out k hlt) hx.out (hW.out k hlt))
          have x5 := (X0.out.keep hB.out).2.2.2.2.2.2
          have hno := Lib.hid (hNo2.out k hlt)
          have hye := Lib.hid (show exB (F.get k) = true → ∀ j, j < k + 1 → exB (F.get j) = true from fun h j hj => by
            by_cases e : j = k
            · rw [e]; exact h
            · exact hS.out j (by omega))
          unfold exV at cS
          cases hdp : exB (F.get k) with
          | false =>
            rw [hdp] at cS
            have hR := Lib.hid (hno.out hdp)
            clear hye hno hdp
            go_wp2_with fail
            refine cS.out.mono ?_; rintro e w' ⟨rfl, hB2⟩
            have B2 := Lib.hid (B1.out.trans (hB2.mono B1.out.size))
            clear hB2 B1 hB cS hS
            go_wp2_with fail
            go_ret
            exact ⟨ret_b hR.out.symm, B0.out.trans (B2.out.mono B0.out.size)⟩
          | true =>
            rw [hdp] at cS
            have hR := Lib.hid (hye.out hdp)
            clear hye hno hdp
            go_wp2_with fail
            refine cS.out.mono ?_; rintro e w' ⟨rfl, hB2⟩
            have B2 := Lib.hid (B1.out.trans (hB2.mono B1.out.size))
            clear hB2 B1 hB cS hS
            go_wp2_with fail
            go_roundw
            case rel => exact ⟨k + 1, by omega, by go_num, hR, B2⟩
            case measure => simp [RowKit.intOf]; omega
        · have hR := Lib.hid (hY.out (fun j hj => hS.out j (by omega)))
          have x5 := (X0.out.keep hB.out).2.2.2.2.2.2
          go_wp2_with fail
          go_ret
          exact ⟨ret_b hR.out.symm, B0.out.trans (hB.out.mono B0.out.size)⟩
end Go.Proofs.YtjmipikahaoblaaGreatDoor.Syn
namespace Go.Proofs.YtjmipikahaoblaaGreatDoor.Syn
open Go.RowKit Go.Lib Go.Proofs.YtjmipikahaoblaaGreatDoor.Bas Go.Proofs.YtjmipikahaoblaaGreatDoor.Cal Go.Proofs.YtjmipikahaoblaaGreatDoor.Lx Go.Proofs.YtjmipikahaoblaaGreatDoor.Sc
set_option linter.unusedVariables false

/-- The tokens X stand in L from the index i on. -/
def Has (L : List Tok) (i : Nat) (X : List Tok) : Prop := ∀ j, j < X.length → i + j < L.length ∧ tk L (i + j) = X.getD j ⟨0, [], 0⟩
theorem has_app {L : List Tok} {i : Nat} {X Y : List Tok} (h : Has L i (X ++ Y)) : Has L i X ∧ Has L (i + X.length) Y := by
  constructor
  · intro j hj
    have := h j (by rw [List.length_append]; omega)
    rw [List.getD_eq_getElem?_getD, List.getElem?_append_left hj, ← List.getD_eq_getElem?_getD] at this
    exact this
  · intro j hj
    have := h (X.length + j) (by rw [List.length_append]; omega)
    rw [List.getD_eq_getElem?_getD, List.getElem?_append_right (by omega), ← List.getD_eq_getElem?_getD, show X.length + j - X.length = j by omega, ← Nat.add_assoc] at this
    exact this
theorem has_cons {L : List Tok} {i : Nat} {t : Tok} {Y : List Tok} (h : Has L i (t :: Y)) : (i < L.length ∧ tk L i = t) ∧ Has L (i + 1) Y := by
  obtain ⟨h1, h2⟩ := has_app (X := [t]) (Y := Y) h
  exact ⟨h1 0 (by simp), h2⟩
theorem has_le {L : List Tok} {i : Nat} {X : List Tok} (h : Has L i X) (h0 : 0 < X.length) : i + X.length ≤ L.length := by
  have := (h (X.length - 1) (by omega)).1
  omega
theorem is_at {L : List Tok} {i b : Nat} {t : Tok} (h : i < L.length ∧ tk L i = t) (k : Int) (s : List UInt8) : isB L ⟨i, 0, b⟩ k s = decide (t.k = k ∧ t.t = s) := by
  unfold isB
  simp only [h.1, h.2, true_and]
/-- The token at i, if there is one, is not this name. -/
def Not (L : List Tok) (w : List UInt8) (i : Nat) : Prop := ∀ b, isB L ⟨i, 0, b⟩ 1 w = false
theorem not_at {L : List Tok} {i : Nat} {t : Tok} (h : i < L.length ∧ tk L i = t) (w : List UInt8) (hn : ¬ (t.k = 1 ∧ t.t = w)) : Not L w i := fun b => by
  rw [is_at h]; exact decide_eq_false hn

theorem countN_stop (L : List Tok) (r : Rs) (h : ¬ (r.e = 0 ∧ isB L r 1 wNot = true)) : ∀ f, countN L f r = (r, 0)
  | 0 => rfl
  | f + 1 => by rw [countN, if_neg h]
theorem countN_fuel (L : List Tok) : ∀ (f g : Nat) (r : Rs), L.length - r.at' ≤ f → L.length - r.at' ≤ g → countN L f r = countN L g r := by
  intro f
  induction f with
  | zero =>
    intro g r hf hg
    rw [countN_stop, countN_stop] <;>
    · intro h
      have := (of_decide_eq_true h.2).1
      omega
  | succ f ih =>
    intro g r hf hg
    by_cases h : r.e = 0 ∧ isB L r 1 wNot = true
    · have := (of_decide_eq_true h.2).1
      cases g with
      | zero => omega
      | succ g =>
        rw [countN, countN, if_pos h, if_pos h, ih g r.go (by show L.length - (r.at' + 1) ≤ f; omega) (by show L.length - (r.at' + 1) ≤ g; omega)]
    · rw [countN_stop L r h, countN_stop L r h]
theorem neg_not (L : List Tok) (rec : Rs → Rs × Ex) (i b : Nat) (h : isB L ⟨i, 0, b⟩ 1 wNot = true) :
    negR L rec ⟨i, 0, b⟩ = ((negR L rec ⟨i + 1, 0, b⟩).1, notE (negR L rec ⟨i + 1, 0, b⟩).2) := by
  have hlt := (of_decide_eq_true h).1
  have e1 : countN L (L.length + 1) ⟨i, 0, b⟩ = ((countN L (L.length + 1) ⟨i + 1, 0, b⟩).1, (countN L (L.length + 1) ⟨i + 1, 0, b⟩).2 + 1) := by
    rw [countN, if_pos ⟨rfl, h⟩]
    rw [show Rs.go ⟨i, 0, b⟩ = ⟨i + 1, 0, b⟩ from rfl, countN_fuel L L.length (L.length + 1) ⟨i + 1, 0, b⟩ (by show L.length - (i + 1) ≤ _; omega) (by show L.length - (i + 1) ≤ _; omega)]
  unfold negR
  rw [e1]
  rfl
theorem neg_atom (L : List Tok) (rec : Rs → Rs × Ex) (r : Rs) (h : isB L r 1 wNot = false) : negR L rec r = atomR L rec r := by
  unfold negR
  rw [countN_stop L r (by rw [h]; simp)]
  rfl
/-- Every expression of a list. -/
def FAll (p : Nd → Fo → Prop) : Fo → Prop
  | .nil => True
  | .cons d k r => p d k ∧ FAll p r
theorem FAll.imp {p q : Nd → Fo → Prop} (h : ∀ d k, p d k → q d k) : ∀ F, FAll p F → FAll q F
  | .nil, _ => trivial
  | .cons d k r, hh => ⟨h d k hh.1, FAll.imp h r hh.2⟩
theorem joinF_stop (L : List Tok) (w : List UInt8) (one : Rs → Rs × Ex) (r : Rs) (l : List Ex) (h : isB L r 1 w = false) : ∀ f, joinF L w one f r l = (r, l)
  | 0 => rfl
  | f + 1 => by rw [joinF, if_neg (by rw [h]; simp)]
/-- An argument's tokens. -/
def argT (op : Int) (d : Nd) (k : Fo) : List Tok := if parB op d.op then mkT [40] :: nodeT d (argsT d.op true k) ++ [mkT [41]] else nodeT d (argsT d.op true k)
theorem argsT_false (op : Int) (d : Nd) (k r : Fo) : argsT op false (.cons d k r) = nmT (wordOf op) :: (argT op d k ++ argsT op false r) := by
  rw [argsT]; rfl
theorem argsT_true (op : Int) (d : Nd) (k r : Fo) : argsT op true (.cons d k r) = argT op d k ++ argsT op false r := by
  rw [argsT]; rfl
/-- It is read as one part, where what follows is as C says. -/
def Reads (L : List Tok) (op : Int) (one : Rs → Rs × Ex) (C : Nat → Prop) (d : Nd) (k : Fo) : Prop :=
  ∀ i b, Has L i (argT op d k) → C (i + (argT op d k).length) → one ⟨i, 0, b⟩ = (⟨i + (argT op d k).length, 0, b⟩, ⟨d, k⟩)
theorem join_run (L : List Tok) (op : Int) (one : Rs → Rs × Ex) (C : Nat → Prop) (hC : ∀ i, i < L.length ∧ tk L i = nmT (wordOf op) → C i) :
    ∀ (F : Fo), FAll (Reads L op one C) F → ∀ (i b : Nat) (acc : List Ex) (f : Nat), F.len ≤ f → Has L i (argsT op false F) → Not L (wordOf op) (i + (argsT op false F).length) → C (i + (argsT op false F).length) →
      joinF L (wordOf op) one f ⟨i, 0, b⟩ acc = (⟨i + (argsT op false F).length, 0, b⟩, acc ++ F.toL)
  | .nil, _, i, b, acc, f, _, _, hn, _ => by
    rw [joinF_stop L _ one ⟨i, 0, b⟩ acc (hn b) f, Fo.toL, List.append_nil]; rfl
  | .cons d k r, hA, i, b, acc, f, hf, hH, hn, hc => by
    rw [Fo.len] at hf
    cases f with
    | zero => omega
    | succ f =>
      rw [argsT_false] at hH hn hc ⊢
      obtain ⟨h1, h2⟩ := has_cons hH
      obtain ⟨h3, h4⟩ := has_app h2
      have el : i + (nmT (wordOf op) :: (argT op d k ++ argsT op false r)).length = (i + 1 + (argT op d k).length) + (argsT op false r).length := by
        rw [List.length_cons, List.length_append]; omega
      rw [el] at hn hc ⊢
      have hc1 : C (i + 1 + (argT op d k).length) := by
        cases r with
        | nil => exact hc
        | cons d' k' r' =>
          rw [argsT_false] at h4
          exact hC _ (has_cons h4).1
      have hone := hA.1 (i + 1) b h3 hc1
      rw [joinF, if_pos ⟨rfl, by rw [is_at h1]; exact decide_eq_true ⟨rfl, rfl⟩⟩, show Rs.go ⟨i, 0, b⟩ = ⟨i + 1, 0, b⟩ from rfl, hone]
      rw [join_run L op one C hC r hA.2 _ b _ f (by omega) h4 hn hc, Fo.toL, List.append_assoc]
      rfl
theorem argT_pos (op : Int) (d : Nd) (k : Fo) (F : Fo) : F.len ≤ (argsT op false F).length := by
  induction F with
  | nil => exact Nat.zero_le _
  | cons d k r _ ih => rw [argsT_false, Fo.len, List.length_cons, List.length_append]; omega
/-- All arguments of an operator. -/
theorem join_all (L : List Tok) (op : Int) (one : Rs → Rs × Ex) (C : Nat → Prop) (hC : ∀ i, i < L.length ∧ tk L i = nmT (wordOf op) → C i) (d : Nd) (k r : Fo)
    (hA : FAll (Reads L op one C) (.cons d k r)) (i b : Nat) (hH : Has L i (argsT op true (.cons d k r))) (hn : Not L (wordOf op) (i + (argsT op true (.cons d k r)).length)) (hc : C (i + (argsT op true (.cons d k r)).length)) :
    joinR L (wordOf op) op one ⟨i, 0, b⟩ = (⟨i + (argsT op true (.cons d k r)).length, 0, b⟩, opE op (⟨d, k⟩ :: r.toL)) := by
  rw [argsT_true] at hH hn hc ⊢
  obtain ⟨h3, h4⟩ := has_app hH
  rw [List.length_append, ← Nat.add_assoc] at hn hc ⊢
  have hc1 : C (i + (argT op d k).length) := by
    cases r with
    | nil => exact hc
    | cons d' k' r' =>
      rw [argsT_false] at h4
      exact hC _ (has_cons h4).1
  have hone := hA.1 i b h3 hc1
  unfold joinR
  rw [hone]
  have hlen : r.len ≤ L.length + 1 := by
    have := argT_pos op d k r
    by_cases h0 : 0 < (argsT op false r).length
    · have := has_le h4 h0; omega
    · omega
  rw [join_run L op one C hC r hA.2 _ b [⟨d, k⟩] (L.length + 1) hlen h4 hn hc]
  rfl

/-- What follows cannot continue a name. -/
def C0 (L : List Tok) (i : Nat) : Prop := Not L wIn i ∧ Not L wFrom i
def C1 (L : List Tok) (i : Nat) : Prop := C0 L i ∧ Not L wAnd i
def C2 (L : List Tok) (i : Nat) : Prop := C1 L i ∧ Not L wOr i
theorem c2_mark {L : List Tok} {i : Nat} {s : List UInt8} (h : i < L.length ∧ tk L i = mkT s) : C2 L i :=
  have hk : ∀ w, ¬ ((mkT s).k = 1 ∧ (mkT s).t = w) := fun w hh => absurd hh.1 (by show ¬ ((4 : Int) = 1); decide)
  ⟨⟨⟨not_at h _ (hk _), not_at h _ (hk _)⟩, not_at h _ (hk _)⟩, not_at h _ (hk _)⟩
theorem c1_or {L : List Tok} {i : Nat} (h : i < L.length ∧ tk L i = nmT (wordOf 8)) : C1 L i :=
  ⟨⟨not_at h _ (by decide), not_at h _ (by decide)⟩, not_at h _ (by decide)⟩
theorem c0_and {L : List Tok} {i : Nat} (h : i < L.length ∧ tk L i = nmT (wordOf 7)) : C0 L i :=
  ⟨not_at h _ (by decide), not_at h _ (by decide)⟩
theorem name_ne {l w : List UInt8} (h : nameB l = true) (hw : resB w = true) : l ≠ w := fun e => by
  subst e
  unfold nameB at h
  rw [hw] at h
  simp at h
theorem opE_one (op : Int) (e : Ex) : opE op [e] = e := rfl
/-- An operand in parentheses. -/
theorem atom_par (L : List Tok) (rec : Rs → Rs × Ex) (i b : Nat) (X : List Tok) (e : Ex) (hH : Has L i (mkT [40] :: X ++ [mkT [41]])) (hr : rec ⟨i + 1, 0, b⟩ = (⟨i + 1 + X.length, 0, b⟩, e)) :
    negR L rec ⟨i, 0, b⟩ = (⟨i + (mkT [40] :: X ++ [mkT [41]]).length, 0, b⟩, e) := by
  obtain ⟨h1, h2⟩ := has_cons hH
  obtain ⟨h3, h4⟩ := has_app h2
  obtain ⟨h5, _⟩ := has_cons h4
  rw [neg_atom L rec _ (by rw [is_at h1]; decide)]
  unfold atomR
  rw [if_neg (by simp), if_pos (by rw [is_at h1]; decide), show Rs.go ⟨i, 0, b⟩ = ⟨i + 1, 0, b⟩ from rfl, hr]
  have : want L ⟨i + 1 + X.length, 0, b⟩ 4 [41] = ⟨i + 1 + X.length + 1, 0, b⟩ := by
    unfold want
    rw [if_neg (by simp), if_pos (by rw [is_at h5]; decide)]
    rfl
  rw [this, show i + (mkT [40] :: X ++ [mkT [41]]).length = i + 1 + X.length + 1 by simp; omega]
theorem listT_false (s : List UInt8) (r : List (List UInt8)) : listT false (s :: r) = mkT [44] :: listT true (s :: r) := by
  rw [listT, listT]; rfl
theorem listT_true (s : List UInt8) (r : List (List UInt8)) : listT true (s :: r) = nmT s :: listT false r := by
  rw [listT]; rfl
theorem name_read (L : List Tok) (i b : Nat) (s : List UInt8) (h : i < L.length ∧ tk L i = nmT s) (hn : nameB s = true) : nameR L ⟨i, 0, b⟩ = (⟨i + 1, 0, b⟩, s) := by
  unfold nameR
  rw [if_neg (by simp)]
  have e : (tk L i).k = 1 ∧ (tk L i).t = s := by rw [h.2]; exact ⟨rfl, rfl⟩
  show (if i < L.length ∧ (tk L i).k = 1 ∧ nameB (tk L i).t = true then _ else _) = _
  rw [e.1, e.2, if_pos ⟨h.1, rfl, hn⟩]
  rfl
theorem words_run (L : List Tok) (b : Nat) : ∀ (ws : List (List UInt8)) (s : List UInt8) (i : Nat) (acc : List (List UInt8)) (f : Nat), ws.length + 1 ≤ f → acc.length + (ws.length + 1) ≤ 12 → (∀ x ∈ s :: ws, nameB x = true) → (acc ++ s :: ws).Nodup → Has L i (listT true (s :: ws) ++ [mkT [41]]) →
    wordsF L f ⟨i, 0, b⟩ acc = (⟨i + (listT true (s :: ws)).length, 0, b⟩, acc ++ s :: ws)
  | ws, s, i, acc, 0, hf, _, _, _, _ => by omega
  | ws, s, i, acc, f + 1, hf, h12, hnm, hnd, hH => by
    rw [listT_true] at hH ⊢
    obtain ⟨h1, h2⟩ := has_cons hH
    have hin : s ∉ acc := fun hm => by
      rw [List.nodup_append] at hnd
      exact hnd.2.2 s hm s (by simp) rfl
    have hw : wordE L ⟨i, 0, b⟩ acc = (⟨i + 1, 0, b⟩, s) := by
      unfold wordE
      rw [name_read L i b s h1 (hnm s (by simp))]
      simp only []
      rw [if_neg hin, if_neg (by omega)]
    rw [wordsF, if_neg (by simp), hw]
    cases ws with
    | nil =>
      rw [if_neg (by rw [is_at (has_cons h2).1]; decide)]
      rfl
    | cons s2 r =>
      rw [listT_false] at h2 ⊢
      obtain ⟨h3, h4⟩ := has_cons h2
      rw [if_pos (by rw [is_at h3]; decide), show Rs.go ⟨i + 1, 0, b⟩ = ⟨i + 1 + 1, 0, b⟩ from rfl]
      rw [words_run L b r s2 (i + 1 + 1) (acc ++ [s]) f (by simp at hf; omega) (by simp at h12 ⊢; omega) (fun x hx => hnm x (by simp at hx ⊢; right; exact hx)) (by simpa using hnd) h4]
      simp
      omega
theorem dist_nodup (l : List (List UInt8)) (h : distB l = true) : l.Nodup := by
  have h2 := of_decide_eq_true h
  rw [List.nodup_iff_pairwise_ne, List.pairwise_iff_getElem]
  intro i j hi hj hij e
  apply h2 j hj i hij
  rw [List.getD_eq_getElem?_getD, List.getD_eq_getElem?_getD, List.getElem?_eq_getElem hi, List.getElem?_eq_getElem hj]
  exact e.symm
theorem names_all (l : List (List UInt8)) (h : namesB l = true) : ∀ x ∈ l, nameB x = true := by
  intro x hx
  obtain ⟨i, hi, e⟩ := List.getElem_of_mem hx
  have := of_decide_eq_true h i hi
  rw [List.getD_eq_getElem?_getD, List.getElem?_eq_getElem hi] at this
  rw [← e]; exact this
theorem bound_read (L : List Tok) (i b : Nat) (n : Int) (h : i < L.length ∧ tk L i = noT n) (hn : farB n = false) : boundR L ⟨i, 0, b⟩ = (⟨i + 1, 0, b⟩, n) := by
  have e : numR L 2 ⟨i, 0, b⟩ = (⟨i + 1, 0, b⟩, n) := by
    unfold numR
    have e : (tk L i).k = 2 ∧ (tk L i).n = n := by rw [h.2]; exact ⟨rfl, rfl⟩
    rw [if_neg (by simp)]
    show (if i < L.length ∧ (tk L i).k = 2 then _ else _) = _
    rw [e.1, e.2, if_pos ⟨h.1, rfl⟩]
    rfl
  unfold boundR
  rw [e, if_neg (by rw [hn]; simp)]
/-- A node without arguments. -/
theorem leaf_read (L : List Tok) (rec : Rs → Rs × Ex) (i b : Nat) (d : Nd) (h5 : d.op ≤ 5) (hd : nodeB d 0 = true) (hH : Has L i (leafT d)) (hC : C0 L (i + (leafT d).length)) :
    negR L rec ⟨i, 0, b⟩ = (⟨i + (leafT d).length, 0, b⟩, ⟨d, .nil⟩) := by
  obtain ⟨op, nm, ws, lo, hi⟩ := d
  simp only [nodeB, Bool.and_eq_true, decide_eq_true_eq] at hd h5
  obtain ⟨⟨⟨⟨⟨o1, o8⟩, hnm⟩, hws⟩, hlh⟩, hn⟩ := hd
  have hcase : op = 1 ∨ op = 2 ∨ op = 3 ∨ op = 4 ∨ op = 5 := by omega
  rcases hcase with rfl | rfl | rfl | rfl | rfl
  · simp at hnm hws hlh
    obtain ⟨rfl, rfl⟩ := hlh
    subst hnm; subst hws
    obtain ⟨h1, _⟩ := has_cons (t := nmT wTrue) (Y := []) hH
    rw [neg_atom L rec _ (by rw [is_at h1]; decide)]
    unfold atomR
    rw [if_neg (by simp), if_neg (by rw [is_at h1]; decide), if_pos (by rw [is_at h1]; decide)]
    rfl
  · simp at hnm hws hlh
    obtain ⟨rfl, rfl⟩ := hlh
    subst hnm; subst hws
    obtain ⟨h1, _⟩ := has_cons (t := nmT wFalse) (Y := []) hH
    rw [neg_atom L rec _ (by rw [is_at h1]; decide)]
    unfold atomR
    rw [if_neg (by simp), if_neg (by rw [is_at h1]; decide), if_neg (by rw [is_at h1]; decide), if_pos (by rw [is_at h1]; decide)]
    rfl
  all_goals
    have hnmB : nameB nm = true := by simpa using hnm
    have hat : i < L.length ∧ tk L i = nmT nm := by
      first | exact (has_cons (t := nmT nm) (Y := []) hH).1 | exact (has_cons (t := nmT nm) (Y := [nmT wIn, mkT [40]] ++ listT true ws ++ [mkT [41]]) hH).1 | exact (has_cons (t := nmT nm) (Y := [nmT wFrom, noT lo, nmT wTo, noT hi]) hH).1
    have q1 : isB L ⟨i, 0, b⟩ 1 wNot = false := by rw [is_at hat]; exact decide_eq_false (fun h => name_ne hnmB (by decide) h.2)
    have q2 : isB L ⟨i, 0, b⟩ 1 wTrue = false := by rw [is_at hat]; exact decide_eq_false (fun h => name_ne hnmB (by decide) h.2)
    have q3 : isB L ⟨i, 0, b⟩ 1 wFalse = false := by rw [is_at hat]; exact decide_eq_false (fun h => name_ne hnmB (by decide) h.2)
    have q4 : isB L ⟨i, 0, b⟩ 4 [40] = false := by rw [is_at hat]; exact decide_eq_false (fun h => absurd h.1 (by show ¬ ((1 : Int) = 4); decide))
    rw [neg_atom L rec _ q1]
    unfold atomR
    rw [if_neg (by simp), if_neg (by rw [q4]; simp), if_neg (by rw [q2]; simp), if_neg (by rw [q3]; simp), name_read L i b nm hat hnmB]
    simp only []
  · simp at hws hlh
    obtain ⟨rfl, rfl⟩ := hlh
    subst hws
    have c1 := hC.1 b
    have c2 := hC.2 b
    rw [show i + (leafT ⟨3, nm, [], 0, 0⟩).length = i + 1 from rfl] at c1 c2 ⊢
    rw [if_neg (by rw [c1]; simp), if_neg (by rw [c2]; simp)]
  · simp at hlh
    obtain ⟨rfl, rfl⟩ := hlh
    rw [if_pos rfl] at hws
    simp only [Bool.and_eq_true, decide_eq_true_eq] at hws
    obtain ⟨⟨⟨w1, w12⟩, wn⟩, wd⟩ := hws
    obtain ⟨_, h2⟩ := has_cons (t := nmT nm) (Y := nmT wIn :: mkT [40] :: (listT true ws ++ [mkT [41]])) hH
    obtain ⟨h3, h4⟩ := has_cons h2
    obtain ⟨h5', h6⟩ := has_cons h4
    have hel : i + (leafT ⟨4, nm, ws, 0, 0⟩).length = i + 1 + 1 + 1 + (listT true ws).length + 1 := by
      show i + ([nmT nm, nmT wIn, mkT [40]] ++ listT true ws ++ [mkT [41]]).length = _
      simp; omega
    rw [hel, if_pos (by rw [is_at h3]; decide)]
    have hwr : wordsR L ⟨i + 1 + 1, 0, b⟩ = (⟨i + 1 + 1 + 1 + (listT true ws).length + 1, 0, b⟩, ws) := by
      unfold wordsR
      have e1 : want L ⟨i + 1 + 1, 0, b⟩ 4 [40] = ⟨i + 1 + 1 + 1, 0, b⟩ := by
        unfold want
        rw [if_neg (by simp), if_pos (by rw [is_at h5']; decide)]
        rfl
      have e2 : wordsF L (L.length + 1) ⟨i + 1 + 1 + 1, 0, b⟩ [] = (⟨i + 1 + 1 + 1 + (listT true ws).length, 0, b⟩, ws) := by
        cases ws with
        | nil => simp at w1
        | cons s r =>
          have hlen : r.length + 1 ≤ L.length + 1 := by
            have : ∀ l : List (List UInt8), l.length ≤ (listT true l).length := by
              intro l
              induction l with
              | nil => exact Nat.zero_le _
              | cons a t ih =>
                rw [listT_true]
                cases t with
                | nil => simp
                | cons a2 t2 => rw [listT_false]; simp at ih ⊢; omega
            have h7 := this (s :: r)
            have h8 := has_le h6 (by simp)
            rw [List.length_append] at h8
            simp at h7 h8
            omega
          exact words_run L b r s (i + 1 + 1 + 1) [] (L.length + 1) hlen (by simp at w12 ⊢; omega) (names_all _ wn) (by simpa using dist_nodup _ wd) h6
      rw [e1, e2]
      have h9 := (has_cons (has_app h6).2).1
      show (want L ⟨i + 1 + 1 + 1 + (listT true ws).length, 0, b⟩ 4 [41], ws) = _
      unfold want
      rw [if_neg (by simp), if_pos (by rw [is_at h9]; decide)]
      rfl
    rw [show Rs.go ⟨i + 1, 0, b⟩ = ⟨i + 1 + 1, 0, b⟩ from rfl, hwr]
  · rw [if_pos rfl] at hlh
    simp at hws
    subst hws
    simp only [Bool.and_eq_true, decide_eq_true_eq, Bool.not_eq_true'] at hlh
    obtain ⟨⟨f1, f2⟩, f3⟩ := hlh
    obtain ⟨_, h2⟩ := has_cons (t := nmT nm) (Y := [nmT wFrom, noT lo, nmT wTo, noT hi]) hH
    obtain ⟨h3, h4⟩ := has_cons h2
    obtain ⟨h5', h6⟩ := has_cons h4
    obtain ⟨h7, h8⟩ := has_cons h6
    obtain ⟨h9, _⟩ := has_cons h8
    rw [if_neg (by rw [is_at h3]; decide), if_pos (by rw [is_at h3]; decide), show Rs.go ⟨i + 1, 0, b⟩ = ⟨i + 1 + 1, 0, b⟩ from rfl, bound_read L _ b lo h5' f1]
    have e1 : want L ⟨i + 1 + 1 + 1, 0, b⟩ 1 wTo = ⟨i + 1 + 1 + 1 + 1, 0, b⟩ := by
      unfold want
      rw [if_neg (by simp), if_pos (by rw [is_at h7]; decide)]
      rfl
    simp only []
    rw [e1, bound_read L _ b hi h9 f2, if_neg (by simp; omega)]
    rfl
end Go.Proofs.YtjmipikahaoblaaGreatDoor.Syn
namespace Go.Proofs.YtjmipikahaoblaaGreatDoor.Syn
open Go.RowKit Go.Lib Go.Proofs.YtjmipikahaoblaaGreatDoor.Bas Go.Proofs.YtjmipikahaoblaaGreatDoor.Cal Go.Proofs.YtjmipikahaoblaaGreatDoor.Lx Go.Proofs.YtjmipikahaoblaaGreatDoor.Sc
set_option linter.unusedVariables false

theorem fail_at (r : Rs) (e : Int) (i : Nat) : (r.fail e i).at' = r.at' := by unfold Rs.fail; split <;> rfl
theorem want_at (L : List Tok) (r : Rs) (k : Int) (t : List UInt8) : r.at' ≤ (want L r k t).at' := by
  unfold want
  split
  · exact Nat.le_refl _
  · split
    · exact Nat.le_succ _
    · rw [fail_at]; exact Nat.le_refl _
theorem nameR_at (L : List Tok) (r : Rs) : r.at' ≤ (nameR L r).1.at' := by
  unfold nameR
  split
  · exact Nat.le_refl _
  · split
    · exact Nat.le_succ _
    · show _ ≤ (r.fail 5 r.at').at'; rw [fail_at]; exact Nat.le_refl _
theorem numR_at (L : List Tok) (k : Int) (r : Rs) : r.at' ≤ (numR L k r).1.at' := by
  unfold numR
  split
  · exact Nat.le_refl _
  · split
    · exact Nat.le_succ _
    · show _ ≤ (r.fail 5 r.at').at'; rw [fail_at]; exact Nat.le_refl _
theorem boundR_at (L : List Tok) (r : Rs) : r.at' ≤ (boundR L r).1.at' := by
  unfold boundR
  split
  · show _ ≤ ((numR L 2 r).1.fail 1 r.at').at'; rw [fail_at]; exact numR_at L 2 r
  · exact numR_at L 2 r
theorem wordE_at (L : List Tok) (r : Rs) (l : List (List UInt8)) : r.at' ≤ (wordE L r l).1.at' := by
  have h := nameR_at L r
  unfold wordE
  simp only []
  split <;> split <;> first | (simp only [fail_at]; exact h) | exact h
theorem wordsF_at (L : List Tok) : ∀ (f : Nat) (r : Rs) (l : List (List UInt8)), r.at' ≤ (wordsF L f r l).1.at'
  | 0, r, l => Nat.le_refl _
  | f + 1, r, l => by
    rw [wordsF]
    split
    · exact Nat.le_refl _
    · split
      · have h1 := wordE_at L r l
        have h2 := wordsF_at L f (wordE L r l).1.go (l ++ [(wordE L r l).2])
        have h3 : (wordE L r l).1.go.at' = (wordE L r l).1.at' + 1 := rfl
        omega
      · exact wordE_at L r l
theorem wordsF_fuel (L : List Tok) : ∀ (f g : Nat) (r : Rs) (l : List (List UInt8)), L.length - r.at' < f → L.length - r.at' < g → wordsF L f r l = wordsF L g r l
  | 0, _, r, _, hf, _ => by omega
  | _ + 1, 0, r, _, _, hg => by omega
  | f + 1, g + 1, r, l, hf, hg => by
    rw [wordsF, wordsF]
    split
    · rfl
    · split
      · rename_i hb
        have h1 := wordE_at L r l
        have h2 := (of_decide_eq_true hb).1
        have h3 : (wordE L r l).1.go.at' = (wordE L r l).1.at' + 1 := rfl
        exact wordsF_fuel L f g _ _ (by omega) (by omega)
      · rfl
theorem wordsR_at (L : List Tok) (r : Rs) : r.at' ≤ (wordsR L r).1.at' := by
  unfold wordsR
  have h1 := want_at L r 4 [40]
  have h2 := wordsF_at L (L.length + 1) (want L r 4 [40]) []
  have h3 := want_at L (wordsF L (L.length + 1) (want L r 4 [40]) []).1 4 [41]
  simp only []
  omega
/-- A reader that never goes back. -/
def Mono (one : Rs → Rs × Ex) : Prop := ∀ r, r.at' ≤ (one r).1.at'
theorem atomR_at (L : List Tok) (rec : Rs → Rs × Ex) (hm : Mono rec) : Mono (atomR L rec) := fun r => by
  unfold atomR
  split
  · exact Nat.le_refl _
  · split
    · have h1 := hm r.go
      have h2 := want_at L (rec r.go).1 4 [41]
      have h3 : r.go.at' = r.at' + 1 := rfl
      simp only []
      omega
    · split
      · exact Nat.le_succ _
      · split
        · exact Nat.le_succ _
        · have h1 := nameR_at L r
          have h3 : (nameR L r).1.go.at' = (nameR L r).1.at' + 1 := rfl
          simp only []
          split
          · have h2 := wordsR_at L (nameR L r).1.go
            simp only []
            omega
          · split
            · have h4 := boundR_at L (nameR L r).1.go
              have h5 := want_at L (boundR L (nameR L r).1.go).1 1 wTo
              have h6 := boundR_at L (want L (boundR L (nameR L r).1.go).1 1 wTo)
              split
              · simp only [fail_at]; omega
              · simp only []; omega
            · exact h1
theorem countN_at (L : List Tok) : ∀ (f : Nat) (r : Rs), r.at' ≤ (countN L f r).1.at'
  | 0, r => Nat.le_refl _
  | f + 1, r => by
    rw [countN]
    split
    · have h1 := countN_at L f r.go
      have h3 : r.go.at' = r.at' + 1 := rfl
      simp only []
      omega
    · exact Nat.le_refl _
theorem negR_at (L : List Tok) (rec : Rs → Rs × Ex) (hm : Mono rec) : Mono (negR L rec) := fun r =>
  Nat.le_trans (countN_at L (L.length + 1) r) (atomR_at L rec hm _)
theorem joinF_at (L : List Tok) (w : List UInt8) (one : Rs → Rs × Ex) (hm : Mono one) : ∀ (f : Nat) (r : Rs) (l : List Ex), r.at' ≤ (joinF L w one f r l).1.at'
  | 0, r, l => Nat.le_refl _
  | f + 1, r, l => by
    rw [joinF]
    split
    · have h1 := hm r.go
      have h2 := joinF_at L w one hm f (one r.go).1 (l ++ [(one r.go).2])
      have h3 : r.go.at' = r.at' + 1 := rfl
      omega
    · exact Nat.le_refl _
theorem joinF_fuel (L : List Tok) (w : List UInt8) (one : Rs → Rs × Ex) (hm : Mono one) : ∀ (f g : Nat) (r : Rs) (l : List Ex), L.length - r.at' ≤ f → L.length - r.at' ≤ g → joinF L w one f r l = joinF L w one g r l
  | 0, g, r, l, hf, _ => by
    rw [joinF_stop L w one r l (decide_eq_false (fun h => by omega)), joinF_stop L w one r l (decide_eq_false (fun h => by omega))]
  | f + 1, 0, r, l, _, hg => by
    rw [joinF_stop L w one r l (decide_eq_false (fun h => by omega)), joinF_stop L w one r l (decide_eq_false (fun h => by omega))]
  | f + 1, g + 1, r, l, hf, hg => by
    rw [joinF, joinF]
    split
    · rename_i hb
      have h2 := (of_decide_eq_true hb.2).1
      have h1 := hm r.go
      have h3 : r.go.at' = r.at' + 1 := rfl
      exact joinF_fuel L w one hm f g _ _ (by omega) (by omega)
    · rfl
theorem joinR_at (L : List Tok) (w : List UInt8) (op : Int) (one : Rs → Rs × Ex) (hm : Mono one) : Mono (joinR L w op one) := fun r =>
  Nat.le_trans (hm r) (joinF_at L w one hm _ _ _)
theorem eitherF_at (L : List Tok) : ∀ f, Mono (eitherF L f)
  | 0 => fun r => Nat.le_refl _
  | f + 1 => joinR_at L wOr 8 _ (joinR_at L wAnd 7 _ (negR_at L _ (eitherF_at L f)))
/-- Two readers agree from a place on. -/
def Agree (L : List Tok) (n : Nat) (p q : Rs → Rs × Ex) : Prop := ∀ r : Rs, L.length - r.at' < n → p r = q r
theorem atomR_agree (L : List Tok) (n : Nat) (p q : Rs → Rs × Ex) (h : Agree L n p q) : Agree L (n + 1) (atomR L p) (atomR L q) := fun r hr => by
  unfold atomR
  split
  · rfl
  · split
    · rename_i hb
      have h2 := (of_decide_eq_true hb).1
      have h3 : r.go.at' = r.at' + 1 := rfl
      rw [h r.go (by omega)]
    · rfl
theorem negR_agree (L : List Tok) (n : Nat) (p q : Rs → Rs × Ex) (h : Agree L n p q) : Agree L (n + 1) (negR L p) (negR L q) := fun r hr => by
  unfold negR
  have h1 := countN_at L (L.length + 1) r
  simp only []
  rw [atomR_agree L n p q h _ (by omega)]
theorem joinR_agree (L : List Tok) (w : List UInt8) (op : Int) (n : Nat) (p q : Rs → Rs × Ex) (hm : Mono p) (h : Agree L n p q) : Agree L n (joinR L w op p) (joinR L w op q) := fun r hr => by
  have key : ∀ (f : Nat) (r : Rs) (l : List Ex), L.length - r.at' < n → joinF L w p f r l = joinF L w q f r l := by
    intro f
    induction f with
    | zero => intro r l _; rfl
    | succ f ih =>
      intro r l hr
      rw [joinF, joinF]
      split
      · have h1 := hm r.go
        have h3 : r.go.at' = r.at' + 1 := rfl
        rw [← h r.go (by omega)]
        exact ih _ _ (by omega)
      · rfl
  have h1 := hm r
  unfold joinR
  rw [← h r hr]
  simp only []
  rw [key _ _ _ (by omega)]
theorem eitherF_agree (L : List Tok) : ∀ (n f g : Nat), n ≤ f → n ≤ g → Agree L n (eitherF L f) (eitherF L g)
  | 0, _, _, _, _ => fun r hr => by omega
  | n + 1, 0, _, hf, _ => by omega
  | n + 1, _ + 1, 0, _, hg => by omega
  | n + 1, f + 1, g + 1, hf, hg =>
    joinR_agree L wOr 8 (n + 1) _ _ (joinR_at L wAnd 7 _ (negR_at L _ (eitherF_at L f)))
      (joinR_agree L wAnd 7 (n + 1) _ _ (negR_at L _ (eitherF_at L f)) (negR_agree L n _ _ (eitherF_agree L n f g (by omega) (by omega))))
/-- The reader, by itself. -/
theorem either_step (L : List Tok) : eitherR L = joinR L wOr 8 (bothR L (eitherR L)) := by
  have h : eitherF L (L.length + 1) = eitherR L := funext fun r => eitherF_agree L (L.length + 1) _ _ (Nat.le_refl _) (Nat.le_succ _) r (by omega)
  have e : eitherR L = joinR L wOr 8 (bothR L (eitherF L (L.length + 1))) := rfl
  rw [h] at e
  exact e
theorem either_at (L : List Tok) : Mono (eitherR L) := eitherF_at L _
end Go.Proofs.YtjmipikahaoblaaGreatDoor.Syn
namespace Go.Proofs.YtjmipikahaoblaaGreatDoor.Syn
open Go.RowKit Go.Lib Go.Proofs.YtjmipikahaoblaaGreatDoor.Bas Go.Proofs.YtjmipikahaoblaaGreatDoor.Cal Go.Proofs.YtjmipikahaoblaaGreatDoor.Lx Go.Proofs.YtjmipikahaoblaaGreatDoor.Sc
set_option linter.unusedVariables false

/-- The index and the error that are left behind a reader. -/
def sim (r : Rs) : Nat × Int := if r.e = 0 then (r.at', 0) else (r.bad, r.e)
abbrev rs (i : Nat) : Rs := ⟨i, 0, 0⟩
theorem sim_ok {r : Rs} (h : r.e = 0) : sim r = (r.at', 0) := if_pos h
theorem sim_no {r : Rs} (h : r.e ≠ 0) : sim r = (r.bad, r.e) := if_neg h
/-- From one state of the reader to a later one: an error stays, and its place. -/
def Step (r s : Rs) : Prop := (r.e ≠ 0 → s.e = r.e ∧ s.bad = r.bad) ∧ (s.e = 0 → s.bad = r.bad)
theorem Step.refl (r : Rs) : Step r r := ⟨fun _ => ⟨rfl, rfl⟩, fun _ => rfl⟩
theorem Step.trans {a b c : Rs} (h : Step a b) (k : Step b c) : Step a c := by
  refine ⟨fun ha => ?_, fun hc => ?_⟩
  · have h1 := h.1 ha
    have h2 := k.1 (by rw [h1.1]; exact ha)
    exact ⟨h2.1.trans h1.1, h2.2.trans h1.2⟩
  · have hb : b.e = 0 := by
      by_cases e : b.e = 0
      · exact e
      · exact absurd (by rw [← (k.1 e).1]; exact hc) e
    exact (k.2 hc).trans (h.2 hb)
theorem Step.sim {r s : Rs} (h : Step r s) (hr : r.e ≠ 0) : sim s = sim r := by
  have h1 := h.1 hr
  rw [sim_no hr, sim_no (by rw [h1.1]; exact hr), h1.1, h1.2]
theorem Step.rs {s : Rs} {i : Nat} (h : Step (rs i) s) (hs : s.e = 0) : s = rs s.at' := by
  have := h.2 hs
  cases s
  simp only at hs this
  subst hs
  rw [this]
theorem Step.ok {r s : Rs} (h : Step r s) (hs : s.e = 0) : r.e = 0 := by
  by_cases e : r.e = 0
  · exact e
  · exact absurd (by rw [← (h.1 e).1]; exact hs) e
theorem step_go (r : Rs) : Step r r.go := ⟨fun _ => ⟨rfl, rfl⟩, fun _ => rfl⟩
theorem step_fail (r : Rs) (e : Int) (he : e ≠ 0) (i : Nat) : Step r (r.fail e i) := by
  unfold Rs.fail
  split
  · rename_i h; exact ⟨fun h2 => absurd h h2, fun h2 => absurd h2 he⟩
  · exact Step.refl r
theorem step_want (L : List Tok) (r : Rs) (k : Int) (t : List UInt8) : Step r (want L r k t) := by
  unfold want
  split
  · exact Step.refl r
  · split
    · exact step_go r
    · exact step_fail r 5 (by decide) _
theorem step_name (L : List Tok) (r : Rs) : Step r (nameR L r).1 := by
  unfold nameR
  split
  · exact Step.refl r
  · split
    · exact step_go r
    · exact step_fail r 5 (by decide) _
theorem step_num (L : List Tok) (k : Int) (r : Rs) : Step r (numR L k r).1 := by
  unfold numR
  split
  · exact Step.refl r
  · split
    · exact step_go r
    · exact step_fail r 5 (by decide) _
theorem step_bound (L : List Tok) (r : Rs) : Step r (boundR L r).1 := by
  unfold boundR
  split
  · exact (step_num L 2 r).trans (step_fail _ 1 (by decide) _)
  · exact step_num L 2 r
theorem step_wordE (L : List Tok) (r : Rs) (l : List (List UInt8)) : Step r (wordE L r l).1 := by
  unfold wordE
  simp only
  split
  · refine Step.trans ?_ (step_fail _ 8 (by decide) _)
    split
    · exact (step_name L r).trans (step_fail _ 4 (by decide) _)
    · exact step_name L r
  · split
    · exact (step_name L r).trans (step_fail _ 4 (by decide) _)
    · exact step_name L r
theorem step_wordsF (L : List Tok) : ∀ (f : Nat) (r : Rs) (l : List (List UInt8)), Step r (wordsF L f r l).1
  | 0, r, l => Step.refl r
  | f + 1, r, l => by
    rw [wordsF]
    split
    · exact Step.refl r
    · split
      · exact (step_wordE L r l).trans ((step_go _).trans (step_wordsF L f _ _))
      · exact step_wordE L r l
theorem step_words (L : List Tok) (r : Rs) : Step r (wordsR L r).1 := (step_want L r 4 [40]).trans ((step_wordsF L _ _ _).trans (step_want L _ 4 [41]))
/-- A reader that keeps errors. -/
def Steps (one : Rs → Rs × Ex) : Prop := ∀ r, Step r (one r).1
/-- An expression that begins with a name. -/
def namedR (L : List Tok) (r : Rs) : Rs × Ex :=
  let x := nameR L r
  if isB L x.1 1 wIn = true then ((wordsR L x.1.go).1, ⟨⟨4, x.2, (wordsR L x.1.go).2, 0, 0⟩, .nil⟩)
  else if isB L x.1 1 wFrom = true then
    let a := boundR L x.1.go
    let b := want L a.1 1 wTo
    let c := boundR L b
    (if c.2 < a.2 then c.1.fail 1 b.at' else c.1, ⟨⟨5, x.2, [], a.2, c.2⟩, .nil⟩)
  else (x.1, ⟨⟨3, x.2, [], 0, 0⟩, .nil⟩)
theorem step_named (L : List Tok) (r : Rs) : Step r (namedR L r).1 := by
  unfold namedR
  simp only
  split
  · exact (step_name L r).trans ((step_go _).trans (step_words L _))
  · split
    · refine (step_name L r).trans ((step_go _).trans ((step_bound L _).trans ((step_want L _ 1 wTo).trans ((step_bound L _).trans ?_))))
      split
      · exact step_fail _ 1 (by decide) _
      · exact Step.refl _
    · exact step_name L r
theorem atom_named (L : List Tok) (rec : Rs → Rs × Ex) (r : Rs) (h0 : r.e = 0) (h1 : isB L r 4 [40] = false) (h2 : isB L r 1 wTrue = false) (h3 : isB L r 1 wFalse = false) : atomR L rec r = namedR L r := by
  unfold atomR
  rw [if_neg (by simp [h0]), if_neg (by simp [h1]), if_neg (by simp [h2]), if_neg (by simp [h3])]
  rfl
theorem step_atom (L : List Tok) (rec : Rs → Rs × Ex) (h : Steps rec) : Steps (atomR L rec) := fun r => by
  by_cases h0 : r.e = 0
  · by_cases h1 : isB L r 4 [40] = true
    · unfold atomR
      rw [if_neg (by simp [h0]), if_pos h1]
      exact (step_go r).trans ((h r.go).trans (step_want L _ 4 [41]))
    · by_cases h2 : isB L r 1 wTrue = true
      · unfold atomR
        rw [if_neg (by simp [h0]), if_neg h1, if_pos h2]
        exact step_go r
      · by_cases h3 : isB L r 1 wFalse = true
        · unfold atomR
          rw [if_neg (by simp [h0]), if_neg h1, if_neg h2, if_pos h3]
          exact step_go r
        · rw [atom_named L rec r h0 (by simpa using h1) (by simpa using h2) (by simpa using h3)]
          exact step_named L r
  · unfold atomR
    rw [if_pos h0]
    exact Step.refl r
theorem step_count (L : List Tok) : ∀ (f : Nat) (r : Rs), Step r (countN L f r).1
  | 0, r => Step.refl r
  | f + 1, r => by
    rw [countN]
    split
    · exact (step_go r).trans (step_count L f r.go)
    · exact Step.refl r
theorem step_neg (L : List Tok) (rec : Rs → Rs × Ex) (h : Steps rec) : Steps (negR L rec) := fun r => (step_count L _ r).trans (step_atom L rec h _)
theorem step_joinF (L : List Tok) (w : List UInt8) (one : Rs → Rs × Ex) (h : Steps one) : ∀ (f : Nat) (r : Rs) (l : List Ex), Step r (joinF L w one f r l).1
  | 0, r, l => Step.refl r
  | f + 1, r, l => by
    rw [joinF]
    split
    · exact (step_go r).trans ((h r.go).trans (step_joinF L w one h f _ _))
    · exact Step.refl r
theorem step_join (L : List Tok) (w : List UInt8) (op : Int) (one : Rs → Rs × Ex) (h : Steps one) : Steps (joinR L w op one) := fun r => (h r).trans (step_joinF L w one h _ _ _)
theorem step_eitherF (L : List Tok) : ∀ f, Steps (eitherF L f)
  | 0 => fun r => Step.refl r
  | f + 1 => step_join L wOr 8 _ (step_join L wAnd 7 _ (step_neg L _ (step_eitherF L f)))
theorem step_either (L : List Tok) : Steps (eitherR L) := step_eitherF L _
theorem step_both (L : List Tok) : Steps (bothR L (eitherR L)) := step_join L wAnd 7 _ (step_neg L _ (step_either L))
theorem step_negE (L : List Tok) : Steps (negR L (eitherR L)) := step_neg L _ (step_either L)

/-- The next token; after an error and at the end one of no kind. -/
def nxT (L : List Tok) (s : Nat × Int) : Tok := if s.2 ≠ 0 then ⟨0, [], 0⟩ else tk L s.1
theorem tk_out {L : List Tok} {i : Nat} (h : L.length ≤ i) : tk L i = ⟨0, [], 0⟩ := by
  unfold tk; rw [List.getD_eq_getElem?_getD, List.getElem?_eq_none h]; rfl
/-- Is it next? -/
def takeB (L : List Tok) (s : Nat × Int) (k : Int) (t : List UInt8) : Bool := decide ((nxT L s).k = k ∧ (nxT L s).t = t)
theorem takeB_no (L : List Tok) (s : Nat × Int) (k : Int) (t : List UInt8) (h : s.2 ≠ 0) (hk : k ≠ 0) : takeB L s k t = false := by
  unfold takeB nxT
  rw [if_pos h]
  exact decide_eq_false (fun e => hk e.1.symm)
theorem takeB_is (L : List Tok) (i : Nat) (k : Int) (t : List UInt8) (hk : k ≠ 0) : takeB L (i, 0) k t = isB L (rs i) k t := by
  unfold takeB nxT isB
  rw [if_neg (by simp)]
  by_cases h : i < L.length
  · simp [h]
  · rw [tk_out (by omega)]
    rw [decide_eq_false (fun e => hk e.1.symm), decide_eq_false (fun e => h e.1)]
theorem takeB_lt {L : List Tok} {i : Nat} {k : Int} {t : List UInt8} (hk : k ≠ 0) (h : takeB L (i, 0) k t = true) : i < L.length := by
  rw [takeB_is L i k t hk] at h
  exact (of_decide_eq_true h).1
def goS (s : Nat × Int) : Nat × Int := (s.1 + 1, s.2)
def takeS (L : List Tok) (s : Nat × Int) (k : Int) (t : List UInt8) : Nat × Int := if takeB L s k t = true then goS s else s
def failS (s : Nat × Int) (e : Int) : Nat × Int := if s.2 = 0 then (s.1, e) else s
def wantS (L : List Tok) (s : Nat × Int) (k : Int) (t : List UInt8) : Nat × Int := if takeB L s k t = true then goS s else failS s 5
theorem wantS_no (L : List Tok) (s : Nat × Int) (k : Int) (t : List UInt8) (h : s.2 ≠ 0) (hk : k ≠ 0) : wantS L s k t = s := by
  unfold wantS failS
  rw [takeB_no L s k t h hk, if_neg (by simp), if_neg h]
theorem want_sim (L : List Tok) (i : Nat) (k : Int) (t : List UInt8) (hk : k ≠ 0) : sim (want L (rs i) k t) = wantS L (i, 0) k t := by
  unfold want wantS
  rw [if_neg (by simp), takeB_is L i k t hk]
  split
  · rfl
  · rfl
/-- .. behind any state of the reader. -/
theorem want_simR (L : List Tok) (i : Nat) (r : Rs) (hS : Step (rs i) r) (k : Int) (t : List UInt8) (hk : k ≠ 0) : sim (want L r k t) = wantS L (sim r) k t := by
  by_cases h : r.e = 0
  · rw [hS.rs h, want_sim L _ k t hk, sim_ok rfl]
  · rw [(step_want L r k t).sim h, sim_no h, wantS_no L _ k t h hk]
/-- The error of a name among others. -/
def nameE (t : Tok) (l : List (List UInt8)) : Int := if t.k ≠ 1 ∨ nameB t.t = false then 5 else if l.length = 12 then 4 else if t.t ∈ l then 8 else 0
def nameS (L : List Tok) (s : Nat × Int) (l : List (List UInt8)) : Nat × Int := if s.2 ≠ 0 then s else if nameE (tk L s.1) l = 0 then goS s else (s.1, nameE (tk L s.1) l)
theorem nameR_rs (L : List Tok) (i : Nat) : nameR L (rs i) = if (tk L i).k = 1 ∧ nameB (tk L i).t = true then (rs (i + 1), (tk L i).t) else (⟨i, 5, i⟩, []) := by
  unfold nameR
  rw [if_neg (by simp)]
  show (if i < L.length ∧ (tk L i).k = 1 ∧ nameB (tk L i).t = true then ((rs i).go, (tk L i).t) else ((rs i).fail 5 i, [])) = _
  by_cases h : i < L.length
  · by_cases h1 : (tk L i).k = 1 ∧ nameB (tk L i).t = true
    · rw [if_pos h1, if_pos ⟨h, h1⟩]; rfl
    · rw [if_neg h1, if_neg (fun e => h1 e.2)]; rfl
  · rw [tk_out (Nat.le_of_not_lt h), if_neg (fun e => h e.1), if_neg (fun e => by simp at e)]; rfl
theorem numR_rs (L : List Tok) (i : Nat) : numR L 2 (rs i) = if (tk L i).k = 2 then (rs (i + 1), (tk L i).n) else (⟨i, 5, i⟩, 0) := by
  unfold numR
  rw [if_neg (by simp)]
  show (if i < L.length ∧ (tk L i).k = 2 then ((rs i).go, (tk L i).n) else ((rs i).fail 5 i, 0)) = _
  by_cases h : i < L.length
  · by_cases h1 : (tk L i).k = 2
    · rw [if_pos h1, if_pos ⟨h, h1⟩]; rfl
    · rw [if_neg h1, if_neg (fun e => h1 e.2)]; rfl
  · rw [tk_out (Nat.le_of_not_lt h), if_neg (fun e => h e.1), if_neg (fun e => by simp at e)]; rfl
theorem wordE_sim (L : List Tok) (i : Nat) (l : List (List UInt8)) : sim (wordE L (rs i) l).1 = nameS L (i, 0) l ∧ ((wordE L (rs i) l).1.e = 0 → (wordE L (rs i) l).2 = (tk L i).t) := by
  unfold nameS
  rw [if_neg (by simp)]
  unfold wordE nameE
  rw [nameR_rs]
  by_cases h1 : (tk L i).k = 1 ∧ nameB (tk L i).t = true
  · rw [if_pos h1, if_neg (c := (tk L i).k ≠ 1 ∨ nameB (tk L i).t = false) (by simp [h1.1, h1.2])]
    dsimp only
    by_cases h2 : l.length = 12
    · rw [if_pos h2, if_pos h2]
      split
      · exact ⟨rfl, fun h => by simp [Rs.fail] at h⟩
      · exact ⟨rfl, fun h => by simp [Rs.fail] at h⟩
    · rw [if_neg h2, if_neg h2]
      by_cases h3 : (tk L i).t ∈ l
      · rw [if_pos h3, if_pos h3]
        exact ⟨rfl, fun h => by simp [Rs.fail] at h⟩
      · rw [if_neg h3, if_neg h3]
        exact ⟨rfl, fun _ => rfl⟩
  · rw [if_neg h1, if_pos (c := (tk L i).k ≠ 1 ∨ nameB (tk L i).t = false) (by
      by_cases b : (tk L i).k = 1
      · right; simpa using fun c => h1 ⟨b, c⟩
      · exact .inl b)]
    dsimp only
    have key : ∀ (p : Prop) [Decidable p] (q : Prop) [Decidable q], (if p then Rs.fail (if q then Rs.fail ⟨i, 5, i⟩ 4 i else ⟨i, 5, i⟩) 8 i else (if q then Rs.fail ⟨i, 5, i⟩ 4 i else ⟨i, 5, i⟩)) = (⟨i, 5, i⟩ : Rs) := by
      intro p _ q _
      split <;> split <;> rfl
    rw [key]
    exact ⟨rfl, fun h => by simp at h⟩
theorem name_sim (L : List Tok) (i : Nat) : sim (nameR L (rs i)).1 = nameS L (i, 0) [] ∧ ((nameR L (rs i)).1.e = 0 → (nameR L (rs i)).2 = (tk L i).t) := by
  have := wordE_sim L i []
  unfold wordE at this
  simpa using this
/-- What is left of a list of words at a state behind a word. -/
def restR (L : List Tok) (r : Rs) (l : List (List UInt8)) : Rs × List (List UInt8) :=
  if isB L r 4 [44] = true then (want L (wordsF L (L.length + 1) r.go l).1 4 [41], (wordsF L (L.length + 1) r.go l).2) else (want L r 4 [41], l)
theorem step_rest (L : List Tok) (r : Rs) (l : List (List UInt8)) : Step r (restR L r l).1 := by
  unfold restR
  split
  · exact (step_go r).trans ((step_wordsF L _ _ _).trans (step_want L _ 4 [41]))
  · exact step_want L r 4 [41]
theorem is_lt {L : List Tok} {r : Rs} {k : Int} {t : List UInt8} (h : isB L r k t = true) : r.at' < L.length := (of_decide_eq_true h).1
theorem words_step (L : List Tok) (f : Nat) (r : Rs) (l : List (List UInt8)) (h0 : r.e = 0) (hf : L.length ≤ f) :
    (want L (wordsF L (f + 1) r l).1 4 [41], (wordsF L (f + 1) r l).2) = restR L (wordE L r l).1 (l ++ [(wordE L r l).2]) := by
  rw [wordsF, if_neg (by simp [h0])]
  unfold restR
  by_cases h : isB L (wordE L r l).1 4 [44] = true
  · rw [if_pos h, if_pos h]
    have hlt := is_lt h
    rw [wordsF_fuel L f (L.length + 1) _ _ (by show L.length - ((wordE L r l).1.at' + 1) < f; omega) (by omega)]
  · rw [if_neg h, if_neg h]
theorem words_start (L : List Tok) (r : Rs) (h0 : (want L r 4 [40]).e = 0) : wordsR L r = restR L (wordE L (want L r 4 [40]) []).1 [(wordE L (want L r 4 [40]) []).2] := by
  unfold wordsR
  exact words_step L L.length _ [] h0 (Nat.le_refl _)
theorem rest_comma (L : List Tok) (r : Rs) (l : List (List UInt8)) (h0 : r.e = 0) (h : isB L r 4 [44] = true) : restR L r l = restR L (wordE L r.go l).1 (l ++ [(wordE L r.go l).2]) := by
  rw [restR, if_pos h]
  exact words_step L L.length _ l h0 (Nat.le_refl _)
theorem rest_end (L : List Tok) (r : Rs) (l : List (List UInt8)) (h : isB L r 4 [44] = false) : restR L r l = (want L r 4 [41], l) := by
  unfold restR; rw [if_neg (by simp [h])]
theorem is_two {L : List Tok} {r : Rs} {k : Int} {s t : List UInt8} (h : isB L r k s = true) (hn : s ≠ t) : isB L r k t = false := by
  have := of_decide_eq_true h
  unfold isB
  apply decide_eq_false
  rintro ⟨_, _, e⟩
  exact hn (this.2.2.symm.trans e)
/-- A number's error. -/
def numE (t : Tok) (least : Int) : Int := if t.k ≠ 2 then 5 else if t.n < least ∨ 1000000000 < t.n then 1 else 0
def numS (L : List Tok) (s : Nat × Int) (least : Int) : Nat × Int := if s.2 ≠ 0 then s else if numE (tk L s.1) least = 0 then goS s else (s.1, numE (tk L s.1) least)
theorem bound_sim (L : List Tok) (i : Nat) : sim (boundR L (rs i)).1 = numS L (i, 0) (-1000000000) ∧ ((boundR L (rs i)).1.e = 0 → (boundR L (rs i)).2 = (tk L i).n ∧ -1000000000 ≤ (tk L i).n) := by
  unfold numS
  rw [if_neg (by simp)]
  unfold boundR numE
  rw [numR_rs]
  by_cases h1 : (tk L i).k = 2
  · rw [if_pos h1, if_neg (c := (tk L i).k ≠ 2) (by simp [h1])]
    dsimp only
    by_cases h2 : farB (tk L i).n = true
    · rw [if_pos h2, if_pos (c := (tk L i).n < -1000000000 ∨ 1000000000 < (tk L i).n) (by unfold farB at h2; simp at h2; omega)]
      exact ⟨rfl, fun h => by simp [Rs.fail] at h⟩
    · have h3 : ¬ ((tk L i).n < -1000000000 ∨ 1000000000 < (tk L i).n) := by unfold farB at h2; simp at h2; omega
      rw [if_neg h2, if_neg h3]
      exact ⟨rfl, fun _ => ⟨rfl, by omega⟩⟩
  · rw [if_neg h1, if_pos (c := (tk L i).k ≠ 2) h1]
    have hf : farB 0 = false := by decide
    dsimp only
    rw [hf, if_neg (by simp)]
    exact ⟨rfl, fun h => by simp at h⟩
/-- A bound that is not less than another one. -/
theorem bound2_sim (L : List Tok) (i : Nat) (low : Int) (hl : -1000000000 ≤ low) : sim (if (boundR L (rs i)).2 < low then (boundR L (rs i)).1.fail 1 i else (boundR L (rs i)).1) = numS L (i, 0) low ∧
    ((if (boundR L (rs i)).2 < low then (boundR L (rs i)).1.fail 1 i else (boundR L (rs i)).1).e = 0 → (boundR L (rs i)).2 = (tk L i).n) := by
  have hn : numS L (i, 0) low = if numE (tk L i) low = 0 then (i + 1, 0) else (i, numE (tk L i) low) := by unfold numS; rw [if_neg (by simp)]; rfl
  rw [hn]
  unfold boundR numE
  rw [numR_rs]
  by_cases h1 : (tk L i).k = 2
  · rw [if_pos h1, if_neg (c := (tk L i).k ≠ 2) (by simp [h1])]
    dsimp only
    by_cases h2 : farB (tk L i).n = true
    · rw [if_pos h2, if_pos (c := (tk L i).n < low ∨ 1000000000 < (tk L i).n) (by unfold farB at h2; simp at h2; omega)]
      dsimp only
      split
      · exact ⟨rfl, fun h => by simp [Rs.fail] at h⟩
      · exact ⟨rfl, fun h => by simp [Rs.fail] at h⟩
    · have h3 : ¬ ((tk L i).n < -1000000000 ∨ 1000000000 < (tk L i).n) := by unfold farB at h2; simp at h2; omega
      rw [if_neg h2]
      dsimp only
      by_cases h4 : (tk L i).n < low
      · rw [if_pos (c := (tk L i).n < low) h4, if_pos (c := (tk L i).n < low ∨ 1000000000 < (tk L i).n) (.inl h4)]
        exact ⟨rfl, fun h => by simp [Rs.fail] at h⟩
      · rw [if_neg (c := (tk L i).n < low) h4, if_neg (c := (tk L i).n < low ∨ 1000000000 < (tk L i).n) (by omega)]
        exact ⟨rfl, fun _ => rfl⟩
  · rw [if_neg h1, if_pos (c := (tk L i).k ≠ 2) h1]
    have hf : farB 0 = false := by decide
    dsimp only
    rw [hf, if_neg (c := (false = true)) (by simp)]
    dsimp only
    split
    · exact ⟨rfl, fun h => by simp [Rs.fail] at h⟩
    · exact ⟨rfl, fun h => by simp at h⟩
end Go.Proofs.YtjmipikahaoblaaGreatDoor.Syn
