/- From the rows' condition on package-level variables to what a call finds; the world that the door leaves meets it. -/
import Derived.Test.YtdehldcgakdobaaGreatDoorScEnv
import Derived.LaidMore
import Derived.OpenShut
import Derived.Stop.Joined
import Derived.Stop.LaidErr
import Derived.Lib.LaidTab
import Derived.Lib.LaidU8
import Derived.Handed
import Derived.Lay
namespace Go.Proofs.YtdehldcgakdobaaGreatDoor.Sc
open Go.ChangeShapes Go.WideShapes Go.ChangeAt Go.RowKit Go.Lib Go.Proofs.YtdehldcgakdobaaGreatDoor.Bas
set_option linter.unusedVariables false

/-- What the rows list. -/
abbrev seatLaid : List (String × DataW Unit) := Rows.schemaBackRow.laid
theorem gPow : Tryz.prog.globalNamed powName = some 3 := by kernel_rfl
theorem tPow : (Tryz.prog.globals[3]?).map (·.type) = some 118 := by kernel_rfl
theorem cU64 : Tryz.prog.cellsOf 105 = 1 := by kernel_rfl
theorem cPow : Tryz.prog.cellsOf 118 = 20 := by kernel_rfl
theorem gErr : Tryz.prog.globalNamed "strconv.ErrRange" = some 2 := by kernel_rfl
theorem tErr : (Tryz.prog.globals[2]?).map (·.type) = some 69 := by kernel_rfl
theorem gSyn : Tryz.prog.globalNamed "strconv.ErrSyntax" = some 1 := by kernel_rfl
theorem tSyn : (Tryz.prog.globals[1]?).map (·.type) = some 69 := by kernel_rfl

theorem all_met (os : Os) (args : Array Value) : laidMetH Tryz.prog seatLaid ((World.laidAll Tryz.prog os seatLaid).forCall (fun _ _ => 0) ⟨#[], args, []⟩).memory := by
  rw [MakeChecks.laidMetH_plain _ _ _ (by kernel_rfl)]
  exact laidMet_laidAll _ (by kernel_rfl) (by kernel_rfl)

/-- What a call finds, where the world's shape is known too. -/
theorem env_of_both {W : World} (h : laidMetH Tryz.prog seatLaid W) (hsh : W.ShapedOpen Tryz.prog) : EnvS W := by
  rw [MakeChecks.laidMetH_plain _ _ _ (by kernel_rfl)] at h
  have h2 : laidMet Tryz.prog ((powName, tabData .u64 pow10Tab) :: seatLaid.drop 3) W := h.tail.tail
  refine ⟨tabIs_of_head gPow tPow Tryz.underlying118 Tryz.underlying105 cU64 cPow h2, ?_, ?_, ?_⟩
  · obtain ⟨g, t, cs, fuel, p, h1, h2, h3, h4⟩ := laidMet.reads h.tail.tail.tail.tail (n := "strconv.ErrRange") (d := Rows.laid_strconv_ErrRange) (List.Mem.head _)
    obtain rfl := Option.some.inj (gErr.symm.trans h1)
    obtain rfl := Option.some.inj (tErr.symm.trans h2)
    cases cs with
    | mk l =>
      obtain ⟨f1, u, v, rfl, _, _⟩ := iface_of_trod Tryz.underlying69 h4
      exact ⟨u, v, h3⟩
  · obtain ⟨g, t, cs, fuel, p, h1, h2, h3, h4⟩ := laidMet.reads h.tail.tail.tail.tail.tail (n := "strconv.ErrSyntax") (d := Rows.laid_strconv_ErrSyntax) (List.Mem.head _)
    obtain rfl := Option.some.inj (gSyn.symm.trans h1)
    obtain rfl := Option.some.inj (tSyn.symm.trans h2)
    cases cs with
    | mk l =>
      obtain ⟨f1, u, v, rfl, _, _⟩ := iface_of_trod Tryz.underlying69 h4
      exact ⟨u, v, h3⟩
  · exact Go.Proofs.cell_of_shapedOpen_int (P := Tryz.prog) (g := 0) (t := 3) (zero := #[.int .i64 0]) hsh (of_decide_eq_true (by kernel_rfl)) (by kernel_rfl) rfl (by kernel_rfl) (by kernel_rfl) Tryz.underlying3
/-- A call that is shown from what its arguments read as, from a condition on the memory, and from the world's shape. -/
theorem wrap_shaped {H : Type} {enc : TypeId × Value → H} {C : Checked} {os : Os} {f : FuncId} {fn : Func} {s : ChangeSpec} {X : World → Array Value → Prop}
    (hX : ∀ (w w' : World) (args : Array Value), w.heap = w'.heap → X w args → X w' args)
    (own : ownKnob C.prog.godebug = none) (started : os.Started) (noInit : C.prog.inits.idxOf? f = none) (hfn : C.prog.funcs[f]? = some fn)
    (witness : ∃ (w : World) (tape : Tape) (i : Input), w.os = os ∧ (w.forCall tape i).Shaped C.prog ∧ i.vars = [] ∧ Input.okWide C.prog (w.forCall tape i) .any w.heap.size f i ∧
      ((s.pre enc C.prog fn [] false (w.forCall tape i).memory i.args ∧ X (w.forCall tape i).memory i.args) ∧ sizedMet enc C.prog fn (OpenSpec.ofChange s) false (w.forCall tape i).memory i.args) ∧ ({} : Assume).holds C.prog (lone (Frame.enter C.prog f i.args .normal) [] (w.forCall tape i)))
    (run : ∀ (W : World) (base : Nat) (args : Array Value) (ds gs : List (DataW H)) (before : List MemPlace), (∀ (j : Nat) t v, fn.params[j]? = some t → args[j]? = some v → Value.okWide C.prog W .any base t v) →
      DataW.Whole enc C.prog fn.params.toList s.vars false W args.toList ds gs before → X W args → W.ShapedOpen C.prog → Calls C.prog f args W fun e W' => ∃ v, e = .returned v ∧ s.post enc C.prog fn false true false false W args v W') :
    ReturnsInHanded {} C os f .any (fun w args => (s.pre enc C.prog fn [] false w args ∧ X w args) ∧ sizedMet enc C.prog fn (OpenSpec.ofChange s) false w args) (s.post enc C.prog fn false true false false) :=
  returnsInHanded_of_calls own started noInit witness fun w tape i _ hsh _ hok hpre _ => by
    have hall := hok.2.2.2
    obtain ⟨g, hg, hrest⟩ := hall
    have hsame : g = fn := by rw [hg] at hfn; exact Option.some.inj hfn
    rw [hsame] at hrest
    obtain ⟨⟨⟨ds, gs, before, hread, _⟩, hx⟩, _⟩ := hpre
    have c := run (w.forCall tape i) w.heap.size i.args ds gs before hrest.2.2.2.2 (DataW.Whole.of_heap (w := (w.forCall tape i).memory) (w' := w.forCall tape i) (by rfl) hread) (hX (w.forCall tape i).memory (w.forCall tape i) i.args (by rfl) hx) hsh
    exact c.mono fun e W' h => by
      obtain ⟨v, hv, hp⟩ := h
      rw [hv]
      exact ChangeSpec.post_blind hp
end Go.Proofs.YtdehldcgakdobaaGreatDoor.Sc
