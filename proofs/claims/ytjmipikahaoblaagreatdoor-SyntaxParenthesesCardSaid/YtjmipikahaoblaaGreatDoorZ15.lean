/- From the rows' condition on package-level variables to what a call finds; the world that the door leaves meets it. -/
import Derived.Test.YtjmipikahaoblaaGreatDoorZ08
import Derived.Test.YtjmipikahaoblaaGreatDoorZ04
import Derived.LaidMore
import Derived.OpenShut
import Derived.Stop.Joined
import Derived.Stop.LaidErr
import Derived.Lib.LaidTab
import Derived.Lib.LaidU8
namespace Go.Proofs.YtjmipikahaoblaaGreatDoor.Syn
open Go.ChangeShapes Go.WideShapes Go.ChangeAt Go.RowKit Go.Lib Go.Proofs.YtjmipikahaoblaaGreatDoor.Bas Go.Proofs.YtjmipikahaoblaaGreatDoor.Cal Go.Proofs.YtjmipikahaoblaaGreatDoor.Lx Go.Proofs.YtjmipikahaoblaaGreatDoor.Sc
set_option linter.unusedVariables false

/-- What the rows list. -/
abbrev seatLaid : List (String × DataW Unit) := Rows.syntaxValidRow.laid
abbrev lenName : String := (seatLaid.map (·.1)).getD 3 "none"
abbrev opName : String := (seatLaid.map (·.1)).getD 6 "none"
abbrev opDatum : DataW Unit := (seatLaid.map (·.2)).getD 6 .nil
theorem gLen : Tryz.prog.globalNamed lenName = some 2 := by kernel_rfl
theorem tLen : (Tryz.prog.globals[2]?).map (·.type) = some 178 := by kernel_rfl
theorem cInt : Tryz.prog.cellsOf 3 = 1 := by kernel_rfl
theorem cLen : Tryz.prog.cellsOf 178 = 12 := by kernel_rfl
theorem gPow : Tryz.prog.globalNamed powName = some 5 := by kernel_rfl
theorem tPow : (Tryz.prog.globals[5]?).map (·.type) = some 192 := by kernel_rfl
theorem cU64 : Tryz.prog.cellsOf 135 = 1 := by kernel_rfl
theorem cPow : Tryz.prog.cellsOf 192 = 20 := by kernel_rfl
theorem gErr : Tryz.prog.globalNamed "strconv.ErrRange" = some 4 := by kernel_rfl
theorem tErr : (Tryz.prog.globals[4]?).map (·.type) = some 97 := by kernel_rfl
theorem gOps : Tryz.prog.globalNamed opName = some 0 := by kernel_rfl
theorem tOps : (Tryz.prog.globals[0]?).map (·.type) = some 105 := by kernel_rfl
theorem cOps : Tryz.prog.cellsOf 105 = 54 := by kernel_rfl
theorem cOp : Tryz.prog.cellsOf 104 = 6 := by kernel_rfl
theorem cBool : Tryz.prog.cellsOf 4 = 1 := by kernel_rfl

theorem door_met (os : Os) (args : Array Value) : laidMetH Tryz.prog seatLaid ((World.doorLaid Tryz.prog 400 os).forCall (fun _ _ => 0) ⟨#[], args, []⟩).memory :=
  laidMetH_of_parts3 (fuel := 8) (laidMet_of_run' 8 (by kernel_rfl) (by kernel_rfl)) (by kernel_rfl) (by kernel_rfl)

/-- A row of the table, as a datum and as cells. -/
def oprD {H : Type} (o : Opr) : DataW H := .agg [.lit (.string o.w), .lit (.bool o.nm), .lit (.bool o.ls), .lit (.bool o.rg), .lit (.int .i64 o.lt), .lit (.bool o.mr)]
def oprC (o : Opr) : List Value := [.string (tx o.w), .bool o.nm, .bool o.ls, .bool o.rg, .int .i64 o.lt, .bool o.mr]
set_option maxRecDepth 20000 in
theorem op_row {H : Type} {enc : TypeId × Value → H} {W : World} {base : Nat} {sp : Nat → Bool} {held : Bool} {fuel : Nat} {cs : List Value} {y : DataW H × List MemPlace} (o : Opr)
    (hf : DataW.trod enc Tryz.prog W base sp held fuel 104 cs = some y) (hy : y.1 = oprD o) : cs = oprC o := by
  obtain ⟨xs, n, _, rfl, hl, hlen, hff⟩ := DataW.trod_struct Tryz.underlying104 hf
  rw [cOp] at hl
  obtain ⟨v0, v1, v2, v3, v4, v5, hcs4⟩ := array6 (cs := cs.toArray) (by simpa using hl)
  have hcs5 : cs = [v0, v1, v2, v3, v4, v5] := by simpa using congrArg Array.toList hcs4
  subst hcs5
  match xs, hlen with
  | [y0, y1, y2, y3, y4, y5], _ =>
    have t0 := hff 0 _ rfl
    have t1 := hff 1 _ rfl
    have t2 := hff 2 _ rfl
    have t3 := hff 3 _ rfl
    have t4 := hff 4 _ rfl
    have t5 := hff 5 _ rfl
    simp [cells_str, cells_i, cBool] at t0 t1 t2 t3 t4 t5
    obtain ⟨s0, e0, d0, _⟩ := DataW.trod_string Tryz.underlying9 t0
    obtain ⟨s1, e1, d1⟩ := DataW.trod_bool Tryz.underlying4 t1
    obtain ⟨s2, e2, d2⟩ := DataW.trod_bool Tryz.underlying4 t2
    obtain ⟨s3, e3, d3⟩ := DataW.trod_bool Tryz.underlying4 t3
    obtain ⟨s4, e4, d4, _⟩ := DataW.trod_int Tryz.underlying3 t4
    obtain ⟨s5, e5, d5⟩ := DataW.trod_bool Tryz.underlying4 t5
    simp at e0 e1 e2 e3 e4 e5
    subst d0; subst d1; subst d2; subst d3; subst d4; subst d5
    simp [oprD] at hy
    obtain ⟨h0, h1, h2, h3, h4, h5⟩ := hy
    have hs : s0 = tx o.w := by rw [← h0]; exact (tx_bl s0).symm
    unfold oprC
    rw [e0, e1, e2, e3, e4, e5, hs, h1, h2, h3, h4, h5]
theorem ops_cells {H : Type} {enc : TypeId × Value → H} {W : World} {base : Nat} {sp : Nat → Bool} {held : Bool} {fuel : Nat} {cs : List Value} {p : List MemPlace}
    (h : DataW.trod enc Tryz.prog W base sp held fuel 105 cs = some (.agg (opTab.map oprD), p)) : ∀ i, i < 9 → (cs.drop (i * 6)).take 6 = oprC (opr i) := by
  intro i hi
  cases fuel with
  | zero => simp [DataW.trod] at h
  | succ fuel =>
    simp only [DataW.trod, Tryz.underlying105, cOp, cOps] at h
    split at h
    · obtain ⟨xs, hm, hx⟩ := Option.map_eq_some_iff.1 h
      have hxs : xs.map (·.1) = opTab.map oprD := by
        have := congrArg Prod.fst hx
        simpa using this
      obtain ⟨b, hb, hf⟩ := mapM_at hm i i (by simp [hi])
      have h2 : (xs.map (·.1))[i]? = some b.1 := by simp [hb]
      rw [hxs] at h2
      have h3 : b.1 = oprD (opr i) := by
        have hl : i < opTab.length := hi
        rw [List.getElem?_map, List.getElem?_eq_getElem hl] at h2
        simp only [Option.map_some, Option.some.injEq] at h2
        rw [← h2]
        unfold opr
        rw [List.getD_eq_getElem?_getD, List.getElem?_eq_getElem hl]; rfl
      exact op_row _ hf h3
    · cases h
def mdTab : List Int := [31, 28, 31, 30, 31, 30, 31, 31, 30, 31, 30, 31]
theorem env_of_laid {W : World} (h : laidMetH Tryz.prog seatLaid W) : EnvX W := by
  rw [MakeChecks.laidMetH_plain _ _ _ (by kernel_rfl)] at h
  refine ⟨⟨?_, ?_, ?_⟩, ?_⟩
  · have h3 : laidMet Tryz.prog ((lenName, tabData .i64 mdTab) :: seatLaid.drop 4) W := h.tail.tail.tail
    have hT := tabIs_of_head gLen tLen Tryz.underlying178 Tryz.underlying3 cInt cLen h3
    intro i hi
    rw [hT.cell gLen i hi]
    rcases (show i = 0 ∨ i = 1 ∨ i = 2 ∨ i = 3 ∨ i = 4 ∨ i = 5 ∨ i = 6 ∨ i = 7 ∨ i = 8 ∨ i = 9 ∨ i = 10 ∨ i = 11 by omega) with e | e | e | e | e | e | e | e | e | e | e | e <;> subst e <;> exact congrArg (fun z => some (Value.int .i64 z)) (by decide +kernel)
  · have h2 : laidMet Tryz.prog ((powName, tabData .u64 pow10Tab) :: seatLaid.drop 3) W := h.tail.tail
    exact tabIs_of_head gPow tPow Tryz.underlying192 Tryz.underlying135 cU64 cPow h2
  · obtain ⟨g, t, cs, fuel, p, h1, h2, h3, h4⟩ := laidMet.reads h.tail.tail.tail.tail (n := "strconv.ErrRange") (d := Rows.laid_strconv_ErrRange) (List.Mem.head _)
    obtain rfl := Option.some.inj (gErr.symm.trans h1)
    obtain rfl := Option.some.inj (tErr.symm.trans h2)
    cases cs with
    | mk l =>
      obtain ⟨f1, u, v, rfl, _, _⟩ := iface_of_trod Tryz.underlying97 h4
      exact ⟨u, v, h3⟩
  · have h6 : laidMet Tryz.prog ((opName, .agg (opTab.map oprD)) :: []) W := h.tail.tail.tail.tail.tail.tail
    obtain ⟨g, t, cs, fuel, p, h1, h2, h3, h4⟩ := laidMet.reads h6 (n := opName) (d := .agg (opTab.map oprD)) (List.Mem.head _)
    obtain rfl := Option.some.inj (gOps.symm.trans h1)
    obtain rfl := Option.some.inj (tOps.symm.trans h2)
    have hc := ops_cells h4
    intro i hi
    have hci := hc i hi
    have key : ∀ j u, (oprC (opr i))[j]? = some u → W.cell? ⟨0, i * 6 + j, none⟩ = some u := fun j u hj => by
      rw [World.var?_cell gOps h3 (i * 6 + j)]
      rw [← hci] at hj
      have hj6 : j < 6 := by
        have := (List.getElem?_eq_some_iff.1 hj).1
        rw [List.length_take] at this; omega
      rw [List.getElem?_take, if_pos hj6, List.getElem?_drop] at hj
      simpa using hj
    exact ⟨key 0 _ rfl, key 1 _ rfl, key 2 _ rfl, key 3 _ rfl, key 4 _ rfl, key 5 _ rfl⟩
end Go.Proofs.YtjmipikahaoblaaGreatDoor.Syn
