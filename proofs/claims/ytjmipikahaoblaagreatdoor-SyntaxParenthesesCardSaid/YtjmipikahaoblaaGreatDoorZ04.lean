/- Expressions: what Size, Depth, Valid, Names, the tokens and the reader are specified to return (mathematics of forests). Expressions in memory: in blocks of a set S. The names of an expression: sorted and each once (mathematics). Expressions among the arguments. Sizes and depths, of the program and of the reference. The program's Names: the names in the order of the text. The reference's Names. Th -/
import Derived.Test.YtjmipikahaoblaaGreatDoorZ00
import Derived.Test.YtjmipikahaoblaaGreatDoorZ01
import Derived.Lib.SlicesCompact
import Derived.Test.YtjmipikahaoblaaGreatDoorZ03
import Derived.Laws.Cover1
import Derived.Sort.Walk0
namespace Go.Proofs.YtjmipikahaoblaaGreatDoor.Syn
open Go.RowKit Go.Lib Go.Proofs.YtjmipikahaoblaaGreatDoor.Bas Go.Proofs.YtjmipikahaoblaaGreatDoor.Cal Go.Proofs.YtjmipikahaoblaaGreatDoor.Lx Go.Proofs.YtjmipikahaoblaaGreatDoor.Sc
set_option linter.unusedVariables false

/-- A node's own fields. -/
structure Nd where
  op : Int
  nm : List UInt8
  ws : List (List UInt8)
  lo : Int
  hi : Int
  deriving DecidableEq
/-- A list of expressions: the first one's node, its arguments, the others. -/
inductive Fo where
  | nil
  | cons (d : Nd) (kids : Fo) (rest : Fo)
  deriving DecidableEq
/-- An expression. -/
structure Ex where
  d : Nd
  kids : Fo
  deriving DecidableEq
def n0 : Nd := ⟨0, [], [], 0, 0⟩
def e0 : Ex := ⟨n0, .nil⟩
namespace Fo
def len : Fo → Nat
  | nil => 0
  | cons _ _ r => 1 + len r
def sizes : Fo → Nat
  | nil => 0
  | cons _ k r => (1 + sizes k) + sizes r
/-- The greatest depth. -/
def deep : Fo → Nat
  | nil => 0
  | cons _ k r => max (1 + deep k) (deep r)
def app : Fo → Fo → Fo
  | nil, g => g
  | cons d k r, g => cons d k (app r g)
def toL : Fo → List Ex
  | nil => []
  | cons d k r => ⟨d, k⟩ :: toL r
def ofL : List Ex → Fo
  | [] => nil
  | e :: r => cons e.d e.kids (ofL r)
theorem toL_ofL (l : List Ex) : toL (ofL l) = l := by
  induction l with
  | nil => rfl
  | cons e r ih => rw [ofL, toL, ih]
theorem ofL_toL (f : Fo) : ofL (toL f) = f := by
  induction f with
  | nil => rfl
  | cons d k r _ ih => rw [toL, ofL, ih]
theorem toL_length (f : Fo) : (toL f).length = f.len := by
  induction f with
  | nil => rfl
  | cons d k r _ ih => rw [toL, len, List.length_cons, ih]; omega
theorem len_le_sizes (f : Fo) : f.len ≤ f.sizes := by
  induction f with
  | nil => exact Nat.le_refl _
  | cons d k r _ ih => rw [len, sizes]; omega
theorem deep_le_sizes (f : Fo) : f.deep ≤ f.sizes := by
  induction f with
  | nil => exact Nat.le_refl _
  | cons d k r h1 h2 => rw [deep, sizes]; omega
theorem app_nil (f : Fo) : f.app nil = f := by
  induction f with
  | nil => rfl
  | cons d k r _ ih => rw [app, ih]
theorem app_assoc (f g h : Fo) : (f.app g).app h = f.app (g.app h) := by
  induction f with
  | nil => rfl
  | cons d k r _ ih => rw [app, app, ih, app]
theorem len_app (f g : Fo) : (f.app g).len = f.len + g.len := by
  induction f with
  | nil => rw [app, len]; omega
  | cons d k r _ ih => rw [app, len, ih, len]; omega
end Fo
namespace Ex
def size (e : Ex) : Nat := 1 + e.kids.sizes
def depth (e : Ex) : Nat := 1 + e.kids.deep
def one (e : Ex) : Fo := .cons e.d e.kids .nil
end Ex
/-- Are the fields of a node those of its operator? -/
def nodeB (d : Nd) (n : Nat) : Bool :=
  decide (1 ≤ d.op ∧ d.op ≤ 8) && (if d.op = 3 ∨ d.op = 4 ∨ d.op = 5 then nameB d.nm else decide (d.nm = [])) &&
  (if d.op = 4 then decide (1 ≤ d.ws.length ∧ d.ws.length ≤ 12) && namesB d.ws && distB d.ws else decide (d.ws = [])) &&
  (if d.op = 5 then !farB d.lo && !farB d.hi && decide (d.lo ≤ d.hi) else decide (d.lo = 0 ∧ d.hi = 0)) &&
  (if d.op = 6 then decide (n = 1) else if d.op = 7 ∨ d.op = 8 then decide (2 ≤ n) else decide (n = 0))
def nodesB : Fo → Bool
  | .nil => true
  | .cons d k r => nodeB d k.len && nodesB k && nodesB r
def exB (e : Ex) : Bool := nodeB e.d e.kids.len && nodesB e.kids
def validB (e : Ex) : Bool := decide (e.size ≤ 300) && decide (e.depth ≤ 16) && exB e

/-- A token's kind, text, number. -/
structure Tok where
  k : Int
  t : List UInt8
  n : Int
  deriving DecidableEq
def nmT (s : List UInt8) : Tok := ⟨1, s, 0⟩
def mkT (s : List UInt8) : Tok := ⟨4, s, 0⟩
def noT (n : Int) : Tok := ⟨2, [], n⟩
def wOr : List UInt8 := [111, 114]
def wAnd : List UInt8 := [97, 110, 100]
def wNot : List UInt8 := [110, 111, 116]
def wTrue : List UInt8 := [116, 114, 117, 101]
def wFalse : List UInt8 := [102, 97, 108, 115, 101]
def wIn : List UInt8 := [105, 110]
def wFrom : List UInt8 := [102, 114, 111, 109]
def wTo : List UInt8 := [116, 111]
/-- Names with commas between them (first: is it the first one?). -/
def listT : Bool → List (List UInt8) → List Tok
  | _, [] => []
  | first, s :: r => (if first then [] else [mkT [44]]) ++ nmT s :: listT false r
def leafT (d : Nd) : List Tok :=
  if d.op = 1 then [nmT wTrue] else if d.op = 2 then [nmT wFalse] else if d.op = 3 then [nmT d.nm]
  else if d.op = 4 then [nmT d.nm, nmT wIn, mkT [40]] ++ listT true d.ws ++ [mkT [41]]
  else [nmT d.nm, nmT wFrom, noT d.lo, nmT wTo, noT d.hi]
def wordOf (op : Int) : List UInt8 := if op = 7 then wAnd else wOr
/-- The tokens of a node whose arguments' tokens are x. -/
def nodeT (d : Nd) (x : List Tok) : List Tok := if 1 ≤ d.op ∧ d.op ≤ 5 then leafT d else (if d.op = 6 then [nmT wNot] else []) ++ x
/-- Does an argument with the operator a stand in parentheses below the operator op? -/
def parB (op a : Int) : Bool := decide (a = 8) || (decide (a = 7) && decide (op ≠ 8))
/-- The tokens of a list of arguments of an operator. -/
def argsT (op : Int) : Bool → Fo → List Tok
  | _, .nil => []
  | first, .cons d k r => (if first then [] else [nmT (wordOf op)]) ++ ((if parB op d.op then mkT [40] :: nodeT d (argsT d.op true k) ++ [mkT [41]] else nodeT d (argsT d.op true k)) ++ argsT op false r)
def exT (e : Ex) : List Tok := nodeT e.d (argsT e.d.op true e.kids)

/-- A reader: the next token's index; the first error and its index. -/
structure Rs where
  at' : Nat
  e : Int
  bad : Nat
  deriving DecidableEq
def tk (L : List Tok) (i : Nat) : Tok := L.getD i ⟨0, [], 0⟩
def Rs.fail (r : Rs) (e : Int) (i : Nat) : Rs := if r.e = 0 then ⟨r.at', e, i⟩ else r
def Rs.go (r : Rs) : Rs := ⟨r.at' + 1, r.e, r.bad⟩
def isB (L : List Tok) (r : Rs) (k : Int) (t : List UInt8) : Bool := decide (r.at' < L.length ∧ (tk L r.at').k = k ∧ (tk L r.at').t = t)
def want (L : List Tok) (r : Rs) (k : Int) (t : List UInt8) : Rs := if r.e ≠ 0 then r else if isB L r k t = true then r.go else r.fail 5 r.at'
def nameR (L : List Tok) (r : Rs) : Rs × List UInt8 :=
  if r.e ≠ 0 then (r, []) else if r.at' < L.length ∧ (tk L r.at').k = 1 ∧ nameB (tk L r.at').t = true then (r.go, (tk L r.at').t) else (r.fail 5 r.at', [])
def numR (L : List Tok) (k : Int) (r : Rs) : Rs × Int :=
  if r.e ≠ 0 then (r, 0) else if r.at' < L.length ∧ (tk L r.at').k = k then (r.go, (tk L r.at').n) else (r.fail 5 r.at', 0)
def boundR (L : List Tok) (r : Rs) : Rs × Int :=
  if farB (numR L 2 r).2 = true then ((numR L 2 r).1.fail 1 r.at', (numR L 2 r).2) else numR L 2 r
/-- The words of a list: one round (the name at r, behind the words l). -/
def wordE (L : List Tok) (r : Rs) (l : List (List UInt8)) : Rs × List UInt8 :=
  let x := nameR L r
  let y := if l.length = 12 then x.1.fail 4 r.at' else x.1
  (if x.2 ∈ l then y.fail 8 r.at' else y, x.2)
def wordsF (L : List Tok) : Nat → Rs → List (List UInt8) → Rs × List (List UInt8)
  | 0, r, l => (r, l)
  | f + 1, r, l =>
    if r.e ≠ 0 then (r, l)
    else if isB L (wordE L r l).1 4 [44] = true then wordsF L f (wordE L r l).1.go (l ++ [(wordE L r l).2])
    else ((wordE L r l).1, l ++ [(wordE L r l).2])
def wordsR (L : List Tok) (r : Rs) : Rs × List (List UInt8) :=
  (want L (wordsF L (L.length + 1) (want L r 4 [40]) []).1 4 [41], (wordsF L (L.length + 1) (want L r 4 [40]) []).2)
/-- An expression without operators, or one in parentheses, given the reader of what stands in parentheses. -/
def atomR (L : List Tok) (rec : Rs → Rs × Ex) (r : Rs) : Rs × Ex :=
  if r.e ≠ 0 then (r, e0)
  else if isB L r 4 [40] = true then (want L (rec r.go).1 4 [41], (rec r.go).2)
  else if isB L r 1 wTrue = true then (r.go, ⟨⟨1, [], [], 0, 0⟩, .nil⟩)
  else if isB L r 1 wFalse = true then (r.go, ⟨⟨2, [], [], 0, 0⟩, .nil⟩)
  else
    let x := nameR L r
    if isB L x.1 1 wIn = true then ((wordsR L x.1.go).1, ⟨⟨4, x.2, (wordsR L x.1.go).2, 0, 0⟩, .nil⟩)
    else if isB L x.1 1 wFrom = true then
      let a := boundR L x.1.go
      let b := want L a.1 1 wTo
      let c := boundR L b
      (if c.2 < a.2 then c.1.fail 1 b.at' else c.1, ⟨⟨5, x.2, [], a.2, c.2⟩, .nil⟩)
    else (x.1, ⟨⟨3, x.2, [], 0, 0⟩, .nil⟩)
def notE (e : Ex) : Ex := ⟨⟨6, [], [], 0, 0⟩, e.one⟩
def nots : Nat → Ex → Ex
  | 0, e => e
  | n + 1, e => notE (nots n e)
def countN (L : List Tok) : Nat → Rs → Rs × Nat
  | 0, r => (r, 0)
  | f + 1, r => if r.e = 0 ∧ isB L r 1 wNot = true then ((countN L f r.go).1, (countN L f r.go).2 + 1) else (r, 0)
def negR (L : List Tok) (rec : Rs → Rs × Ex) (r : Rs) : Rs × Ex :=
  let c := countN L (L.length + 1) r
  ((atomR L rec c.1).1, nots c.2 (atomR L rec c.1).2)
/-- What is joined by a word, behind the expressions l. -/
def joinF (L : List Tok) (w : List UInt8) (one : Rs → Rs × Ex) : Nat → Rs → List Ex → Rs × List Ex
  | 0, r, l => (r, l)
  | f + 1, r, l => if r.e = 0 ∧ isB L r 1 w = true then joinF L w one f (one r.go).1 (l ++ [(one r.go).2]) else (r, l)
def opE (op : Int) (l : List Ex) : Ex := if l.length = 1 then l.getD 0 e0 else ⟨⟨op, [], [], 0, 0⟩, Fo.ofL l⟩
def joinR (L : List Tok) (w : List UInt8) (op : Int) (one : Rs → Rs × Ex) (r : Rs) : Rs × Ex :=
  let x := joinF L w one (L.length + 1) (one r).1 [(one r).2]
  (x.1, opE op x.2)
def bothR (L : List Tok) (rec : Rs → Rs × Ex) (r : Rs) : Rs × Ex := joinR L wAnd 7 (negR L rec) r
def eitherF (L : List Tok) : Nat → Rs → Rs × Ex
  | 0, r => (r, e0)
  | f + 1, r => joinR L wOr 8 (bothR L (eitherF L f)) r
def eitherR (L : List Tok) (r : Rs) : Rs × Ex := eitherF L (L.length + 2) r
def readR (L : List Tok) (r : Rs) : Rs × Ex :=
  if r.e ≠ 0 then (r, e0)
  else if (eitherR L r).1.e = 0 ∧ (300 < (eitherR L r).2.size ∨ 16 < (eitherR L r).2.depth) then ((eitherR L r).1.fail 4 r.at', (eitherR L r).2) else eitherR L r
/-- Tokens: the expression, the index behind it, the error's index, the error. -/
def tokensV (L : List Tok) (i : Int) : Ex × Nat × Nat × Int :=
  if i < 0 ∨ (L.length : Int) < i then (e0, 0, 0, 1)
  else if (readR L ⟨i.toNat, 0, 0⟩).1.e ≠ 0 then (e0, 0, (readR L ⟨i.toNat, 0, 0⟩).1.bad, (readR L ⟨i.toNat, 0, 0⟩).1.e)
  else ((readR L ⟨i.toNat, 0, 0⟩).2, (readR L ⟨i.toNat, 0, 0⟩).1.at', 0, 0)
end Go.Proofs.YtjmipikahaoblaaGreatDoor.Syn
namespace Go.Proofs.YtjmipikahaoblaaGreatDoor.Syn
open Go.RowKit Go.Lib Go.Proofs.YtjmipikahaoblaaGreatDoor.Bas Go.Proofs.YtjmipikahaoblaaGreatDoor.Cal Go.Proofs.YtjmipikahaoblaaGreatDoor.Lx Go.Proofs.YtjmipikahaoblaaGreatDoor.Sc
set_option linter.unusedVariables false

/-- A block that is read is as it was. -/
theorem cell_same {w w' : World} {b o : Nat} {v : Value} (h : w.cell? ⟨b, o, none⟩ = some v) (e : b < w.heap.size → w'.heap[b]? = w.heap[b]?) : w'.cell? ⟨b, o, none⟩ = some v := by
  have hlt : b < w.heap.size := World.block_lt_of_cell? _ _ h
  rw [World.cell?_of_block (w := w) (a := ⟨b, o, none⟩) (e hlt)]; exact h
/-- Strings, in a block of S. -/
def StrsS (S : Nat → Prop) (w : World) (v : Value) (l : List (List UInt8)) : Prop :=
  ∃ p c, v = .slice p l.length c ∧ (l.length ≤ c ∧ (p = none → c = 0)) ∧ (0 < l.length → ∃ b off, p = some ⟨b, off, none⟩ ∧ S b ∧ ∀ j, j < l.length → w.cell? ⟨b, off + j, none⟩ = some (.string (tx (l.getD j []))))
theorem StrsS.at {S : Nat → Prop} {w : World} {v : Value} {l : List (List UInt8)} (h : StrsS S w v l) : StrsAt w v l := by
  obtain ⟨p, c, hv, hc, hp⟩ := h
  exact ⟨p, c, hv, hc, fun h0 => by obtain ⟨b, off, e, _, hh⟩ := hp h0; exact ⟨b, off, e, hh⟩⟩
theorem strsS_of {w : World} {v : Value} {l : List (List UInt8)} (h : StrsAt w v l) : StrsS (fun _ => True) w v l := by
  obtain ⟨p, c, hv, hc, hp⟩ := h
  exact ⟨p, c, hv, hc, fun h0 => by obtain ⟨b, off, e, hh⟩ := hp h0; exact ⟨b, off, e, trivial, hh⟩⟩
theorem strsS_nil (S : Nat → Prop) (w : World) : StrsS S w (.slice none 0 0) [] := ⟨none, 0, rfl, ⟨Nat.le_refl _, fun _ => rfl⟩, fun h => by simp at h⟩
theorem StrsS.frame {S T : Nat → Prop} {w w' : World} {v : Value} {l : List (List UInt8)} (h : StrsS S w v l) (hf : ∀ b, S b → b < w.heap.size → T b ∧ w'.heap[b]? = w.heap[b]?) : StrsS T w' v l := by
  obtain ⟨p, c, hv, hc, hp⟩ := h
  refine ⟨p, c, hv, hc, fun h0 => ?_⟩
  obtain ⟨b, off, e, hs, hh⟩ := hp h0
  have hlt : b < w.heap.size := World.block_lt_of_cell? _ _ (hh 0 h0)
  exact ⟨b, off, e, (hf b hs hlt).1, fun j hj => cell_same (hh j hj) fun _ => (hf b hs hlt).2⟩
/-- A node's own fields lie at (b, o). -/
def NdS (S : Nat → Prop) (w : World) (d : Nd) (b o : Nat) : Prop :=
  w.cell? ⟨b, o, none⟩ = some (.int .i64 d.op) ∧ w.cell? ⟨b, o + 1, none⟩ = some (.string (tx d.nm)) ∧ (∃ u, w.cell? ⟨b, o + 2, none⟩ = some u ∧ StrsS S w u d.ws) ∧ w.cell? ⟨b, o + 3, none⟩ = some (.int .i64 d.lo) ∧ w.cell? ⟨b, o + 4, none⟩ = some (.int .i64 d.hi)
/-- A list of expressions lies from (b, o) on, each with its arguments. -/
def RowS (S : Nat → Prop) (w : World) : Fo → Nat → Nat → Prop
  | .nil, _, _ => True
  | .cons d k r, b, o => NdS S w d b o ∧ (∃ p c, w.cell? ⟨b, o + 5, none⟩ = some (.slice p k.len c) ∧ (k.len ≤ c ∧ (p = none → c = 0)) ∧ (0 < k.len → ∃ b' o', p = some ⟨b', o', none⟩ ∧ S b' ∧ RowS S w k b' o')) ∧ RowS S w r b (o + 6)
/-- The value reads as this list of expressions. -/
def FoS (S : Nat → Prop) (w : World) (v : Value) (F : Fo) : Prop := ∃ p c, v = .slice p F.len c ∧ (F.len ≤ c ∧ (p = none → c = 0)) ∧ (0 < F.len → ∃ b o, p = some ⟨b, o, none⟩ ∧ S b ∧ RowS S w F b o)
/-- An expression as a value: its node, its words, its arguments. -/
def exV (d : Nd) (u a : Value) : Value := .agg #[.int .i64 d.op, .string (tx d.nm), u, .int .i64 d.lo, .int .i64 d.hi, a]
/-- The value reads as this expression. -/
def ExS (S : Nat → Prop) (w : World) (v : Value) (e : Ex) : Prop := ∃ u a, v = exV e.d u a ∧ StrsS S w u e.d.ws ∧ FoS S w a e.kids
def Any : Nat → Prop := fun _ => True
abbrev FoAt (w : World) (v : Value) (F : Fo) : Prop := FoS Any w v F
abbrev ExAt (w : World) (v : Value) (e : Ex) : Prop := ExS Any w v e
theorem foS_nil (S : Nat → Prop) (w : World) : FoS S w (.slice none 0 0) .nil := ⟨none, 0, rfl, ⟨Nat.le_refl _, fun _ => rfl⟩, fun h => by rw [Fo.len] at h; omega⟩
theorem NdS.lt {S : Nat → Prop} {w : World} {d : Nd} {b o : Nat} (h : NdS S w d b o) : b < w.heap.size := World.block_lt_of_cell? _ _ h.1
theorem NdS.frame {S T : Nat → Prop} {w w' : World} {d : Nd} {b o : Nat} (h : NdS S w d b o) (hb : w'.heap[b]? = w.heap[b]?) (hf : ∀ b, S b → b < w.heap.size → T b ∧ w'.heap[b]? = w.heap[b]?) : NdS T w' d b o := by
  obtain ⟨h1, h2, ⟨u, h3, h4⟩, h5, h6⟩ := h
  exact ⟨cell_same h1 fun _ => hb, cell_same h2 fun _ => hb, ⟨u, cell_same h3 fun _ => hb, h4.frame hf⟩, cell_same h5 fun _ => hb, cell_same h6 fun _ => hb⟩
theorem RowS.frame {S T : Nat → Prop} {w w' : World} (hf : ∀ b, S b → b < w.heap.size → T b ∧ w'.heap[b]? = w.heap[b]?) : ∀ (F : Fo) (b o : Nat), (b < w.heap.size → w'.heap[b]? = w.heap[b]?) → RowS S w F b o → RowS T w' F b o
  | .nil, _, _, _, _ => trivial
  | .cons d k r, b, o, hb, h => by
    rw [RowS] at h ⊢
    obtain ⟨h1, ⟨p, c, h2, h3, h4⟩, h5⟩ := h
    refine ⟨h1.frame (hb h1.lt) hf, ⟨p, c, cell_same h2 hb, h3, fun h0 => ?_⟩, RowS.frame hf r b (o + 6) hb h5⟩
    obtain ⟨b', o', e, hs, h6⟩ := h4 h0
    have hlt : b' < w.heap.size := by
      cases k with
      | nil => rw [Fo.len] at h0; omega
      | cons d' k' r' => rw [RowS] at h6; exact h6.1.lt
    exact ⟨b', o', e, (hf b' hs hlt).1, RowS.frame hf k b' o' (fun _ => (hf b' hs hlt).2) h6⟩
theorem RowS.lt {S : Nat → Prop} {w : World} {F : Fo} {b o : Nat} (h : RowS S w F b o) (h0 : 0 < F.len) : b < w.heap.size := by
  cases F with
  | nil => rw [Fo.len] at h0; omega
  | cons d' k' r' => rw [RowS] at h; exact h.1.lt
theorem FoS.frame {S T : Nat → Prop} {w w' : World} {v : Value} {F : Fo} (h : FoS S w v F) (hf : ∀ b, S b → b < w.heap.size → T b ∧ w'.heap[b]? = w.heap[b]?) : FoS T w' v F := by
  obtain ⟨p, c, hv, hc, hp⟩ := h
  refine ⟨p, c, hv, hc, fun h0 => ?_⟩
  obtain ⟨b, o, e, hs, h6⟩ := hp h0
  have hlt := h6.lt h0
  exact ⟨b, o, e, (hf b hs hlt).1, RowS.frame hf F b o (fun _ => (hf b hs hlt).2) h6⟩
theorem ExS.frame {S T : Nat → Prop} {w w' : World} {v : Value} {e : Ex} (h : ExS S w v e) (hf : ∀ b, S b → b < w.heap.size → T b ∧ w'.heap[b]? = w.heap[b]?) : ExS T w' v e := by
  obtain ⟨u, a, hv, h1, h2⟩ := h
  exact ⟨u, a, hv, h1.frame hf, h2.frame hf⟩
theorem StrsS.below {S : Nat → Prop} {w w' : World} {v : Value} {l : List (List UInt8)} (h : StrsS S w v l) (hb : Below w.heap.size w w') : StrsS S w' v l := h.frame fun b hs hl => ⟨hs, hb.block b hl⟩
theorem FoS.below {S : Nat → Prop} {w w' : World} {v : Value} {F : Fo} (h : FoS S w v F) (hb : Below w.heap.size w w') : FoS S w' v F := h.frame fun b hs hl => ⟨hs, hb.block b hl⟩
theorem ExS.below {S : Nat → Prop} {w w' : World} {v : Value} {e : Ex} (h : ExS S w v e) (hb : Below w.heap.size w w') : ExS S w' v e := h.frame fun b hs hl => ⟨hs, hb.block b hl⟩
theorem StrsS.mono {S T : Nat → Prop} {w : World} {v : Value} {l : List (List UInt8)} (h : StrsS S w v l) (hs : ∀ b, S b → b < w.heap.size → T b) : StrsS T w v l := h.frame fun b h1 hl => ⟨hs b h1 hl, rfl⟩
theorem FoS.mono {S T : Nat → Prop} {w : World} {v : Value} {F : Fo} (h : FoS S w v F) (hs : ∀ b, S b → b < w.heap.size → T b) : FoS T w v F := h.frame fun b h1 hl => ⟨hs b h1 hl, rfl⟩
theorem ExS.mono {S T : Nat → Prop} {w : World} {v : Value} {e : Ex} (h : ExS S w v e) (hs : ∀ b, S b → b < w.heap.size → T b) : ExS T w v e := h.frame fun b h1 hl => ⟨hs b h1 hl, rfl⟩
theorem ExS.at {S : Nat → Prop} {w : World} {v : Value} {e : Ex} (h : ExS S w v e) : ExAt w v e := h.mono fun _ _ _ => trivial
theorem FoS.at {S : Nat → Prop} {w : World} {v : Value} {F : Fo} (h : FoS S w v F) : FoAt w v F := h.mono fun _ _ _ => trivial
/-- The expression j of a list. -/
def Fo.get (F : Fo) (j : Nat) : Ex := F.toL.getD j e0
theorem Fo.get_zero (d : Nd) (k r : Fo) : Fo.get (.cons d k r) 0 = ⟨d, k⟩ := rfl
theorem Fo.get_succ (d : Nd) (k r : Fo) (j : Nat) : Fo.get (.cons d k r) (j + 1) = Fo.get r j := by
  unfold Fo.get; rw [Fo.toL, List.getD_cons_succ]
/-- An element of a list that lies in memory: its fields, and its arguments as a value. -/
theorem RowS.get {S : Nat → Prop} {w : World} : ∀ (F : Fo) (b o j : Nat), RowS S w F b o → j < F.len → NdS S w (F.get j).d b (o + j * 6) ∧ ∃ a, w.cell? ⟨b, o + j * 6 + 5, none⟩ = some a ∧ FoS S w a (F.get j).kids
  | .nil, _, _, _, _, hj => by rw [Fo.len] at hj; omega
  | .cons d k r, b, o, 0, h, _ => by
    rw [RowS] at h
    obtain ⟨h1, ⟨p, c, h2, h3, h4⟩, _⟩ := h
    rw [Fo.get_zero, Nat.zero_mul, Nat.add_zero]
    exact ⟨h1, _, h2, p, c, rfl, h3, h4⟩
  | .cons d k r, b, o, j + 1, h, hj => by
    rw [RowS] at h
    rw [Fo.len] at hj
    have := RowS.get r b (o + 6) j h.2.2 (by omega)
    rw [Fo.get_succ, show o + (j + 1) * 6 = o + 6 + j * 6 by omega]
    exact this
/-- .. and back: a list lies in memory if each of its elements does. -/
theorem RowS.of {S : Nat → Prop} {w : World} : ∀ (F : Fo) (b o : Nat), (∀ j, j < F.len → NdS S w (F.get j).d b (o + j * 6) ∧ ∃ a, w.cell? ⟨b, o + j * 6 + 5, none⟩ = some a ∧ FoS S w a (F.get j).kids) → RowS S w F b o
  | .nil, _, _, _ => trivial
  | .cons d k r, b, o, h => by
    rw [RowS]
    have h0 := h 0 (by rw [Fo.len]; omega)
    rw [Fo.get_zero, Nat.zero_mul, Nat.add_zero] at h0
    obtain ⟨h1, a, h2, p, c, rfl, h3, h4⟩ := h0
    refine ⟨h1, ⟨p, c, h2, h3, h4⟩, RowS.of r b (o + 6) fun j hj => ?_⟩
    have := h (j + 1) (by rw [Fo.len]; omega)
    rw [Fo.get_succ, show o + (j + 1) * 6 = o + 6 + j * 6 by omega] at this
    exact this
/-- An element as a value that was read. -/
theorem FoS.elem {S : Nat → Prop} {w : World} {v : Value} {F : Fo} (h : FoS S w v F) (j : Nat) (hj : j < F.len) : ∃ b o c, v = .slice (some ⟨b, o, none⟩) F.len c ∧ S b ∧ b < w.heap.size ∧ ∃ u a,
    w.cell? ⟨b, o + j * 6, none⟩ = some (.int .i64 (F.get j).d.op) ∧ w.cell? ⟨b, o + j * 6 + 1, none⟩ = some (.string (tx (F.get j).d.nm)) ∧ w.cell? ⟨b, o + j * 6 + 2, none⟩ = some u ∧ w.cell? ⟨b, o + j * 6 + 3, none⟩ = some (.int .i64 (F.get j).d.lo) ∧ w.cell? ⟨b, o + j * 6 + 4, none⟩ = some (.int .i64 (F.get j).d.hi) ∧ w.cell? ⟨b, o + j * 6 + 5, none⟩ = some a ∧
    StrsS S w u (F.get j).d.ws ∧ FoS S w a (F.get j).kids := by
  obtain ⟨p, c, rfl, _, hp⟩ := h
  obtain ⟨b, o, rfl, hs, hr⟩ := hp (by omega)
  have hlt := hr.lt (by omega)
  obtain ⟨⟨h1, h2, ⟨u, h3, h4⟩, h5, h6⟩, a, h7, h8⟩ := RowS.get F b o j hr hj
  exact ⟨b, o, c, rfl, hs, hlt, u, a, h1, h2, h3, h5, h6, h7, h4, h8⟩
/-- A node's parts, and an expression's, are within their types. -/
def NdWf (d : Nd) : Prop := (d.nm.length ≤ 9223372036854775807 ∧ WsWf d.ws) ∧ (Lit.int .i64 d.op).wf = true ∧ (Lit.int .i64 d.lo).wf = true ∧ (Lit.int .i64 d.hi).wf = true
def FoWf : Fo → Prop
  | .nil => True
  | .cons d k r => NdWf d ∧ k.len ≤ 9223372036854775807 ∧ FoWf k ∧ FoWf r
def ExWf (e : Ex) : Prop := NdWf e.d ∧ e.kids.len ≤ 9223372036854775807 ∧ FoWf e.kids
theorem FoWf.get : ∀ (F : Fo) (j : Nat), FoWf F → j < F.len → ExWf (F.get j)
  | .nil, _, _, hj => by rw [Fo.len] at hj; omega
  | .cons d k r, 0, h, _ => by
    rw [FoWf] at h
    rw [Fo.get_zero]; exact ⟨h.1, h.2.1, h.2.2.1⟩
  | .cons d k r, j + 1, h, hj => by
    rw [FoWf] at h
    rw [Fo.len] at hj
    rw [Fo.get_succ]; exact FoWf.get r j h.2.2.2 (by omega)
theorem FoWf.of : ∀ (F : Fo), (∀ j, j < F.len → ExWf (F.get j)) → FoWf F
  | .nil, _ => trivial
  | .cons d k r, h => by
    rw [FoWf]
    have h0 := h 0 (by rw [Fo.len]; omega)
    rw [Fo.get_zero] at h0
    exact ⟨h0.1, h0.2.1, h0.2.2, FoWf.of r fun j hj => by have := h (j + 1) (by rw [Fo.len]; omega); rwa [Fo.get_succ] at this⟩
/-- A list's first k expressions. -/
def Fo.take : Nat → Fo → Fo
  | 0, _ => .nil
  | _, .nil => .nil
  | n + 1, .cons d k r => .cons d k (Fo.take n r)
theorem Fo.take_zero (F : Fo) : Fo.take 0 F = .nil := rfl
theorem Fo.take_len : ∀ F : Fo, Fo.take F.len F = F
  | .nil => rfl
  | .cons d k r => by rw [Fo.len, show 1 + r.len = r.len + 1 by omega, Fo.take, Fo.take_len r]
theorem Fo.sizes_take_succ : ∀ (F : Fo) (j : Nat), j < F.len → (F.take (j + 1)).sizes = (F.take j).sizes + (F.get j).size
  | .nil, _, hj => by rw [Fo.len] at hj; omega
  | .cons d k r, 0, _ => by
    rw [Fo.get_zero]
    show (1 + k.sizes) + (Fo.take 0 r).sizes = (Fo.take 0 (Fo.cons d k r)).sizes + (1 + k.sizes)
    have h0 : ∀ F : Fo, (Fo.take 0 F).sizes = 0 := fun F => rfl
    rw [h0, h0]; omega
  | .cons d k r, j + 1, hj => by
    rw [Fo.len] at hj
    rw [Fo.get_succ]
    show (1 + k.sizes) + (Fo.take (j + 1) r).sizes = (1 + k.sizes) + (Fo.take j r).sizes + (Fo.get r j).size
    rw [Fo.sizes_take_succ r j (by omega)]; omega
theorem Fo.deep_take_succ : ∀ (F : Fo) (j : Nat), j < F.len → (F.take (j + 1)).deep = max (F.take j).deep (F.get j).depth
  | .nil, _, hj => by rw [Fo.len] at hj; omega
  | .cons d k r, 0, _ => by
    rw [Fo.get_zero]
    show max (1 + k.deep) (Fo.take 0 r).deep = max (Fo.take 0 (Fo.cons d k r)).deep (1 + k.deep)
    have h0 : ∀ F : Fo, (Fo.take 0 F).deep = 0 := fun F => rfl
    rw [h0, h0]; omega
  | .cons d k r, j + 1, hj => by
    rw [Fo.len] at hj
    rw [Fo.get_succ]
    show max (1 + k.deep) (Fo.take (j + 1) r).deep = max (max (1 + k.deep) (Fo.take j r).deep) (Fo.get r j).depth
    rw [Fo.deep_take_succ r j (by omega)]; omega
theorem Fo.sizes_take_le : ∀ (F : Fo) (j : Nat), (F.take j).sizes ≤ F.sizes
  | .nil, 0 => Nat.le_refl _
  | .nil, j + 1 => Nat.le_refl _
  | .cons d k r, 0 => Nat.zero_le _
  | .cons d k r, j + 1 => by
    show (1 + k.sizes) + (Fo.take j r).sizes ≤ (1 + k.sizes) + r.sizes
    have := Fo.sizes_take_le r j; omega
theorem Fo.deep_take_le : ∀ (F : Fo) (j : Nat), (F.take j).deep ≤ F.deep
  | .nil, 0 => Nat.le_refl _
  | .nil, j + 1 => Nat.le_refl _
  | .cons d k r, 0 => Nat.zero_le _
  | .cons d k r, j + 1 => by
    show max (1 + k.deep) (Fo.take j r).deep ≤ max (1 + k.deep) r.deep
    have := Fo.deep_take_le r j; omega
theorem Fo.size_get_le (F : Fo) (j : Nat) (h : j < F.len) : (F.get j).size ≤ F.sizes := by
  have h1 := Fo.sizes_take_succ F j h
  have h2 := Fo.sizes_take_le F (j + 1)
  omega
theorem Fo.depth_get_le (F : Fo) (j : Nat) (h : j < F.len) : (F.get j).depth ≤ F.deep := by
  have h1 := Fo.deep_take_succ F j h
  have h2 := Fo.deep_take_le F (j + 1)
  omega
theorem Fo.nodes_get : ∀ (F : Fo), nodesB F = true ↔ ∀ j, j < F.len → exB (F.get j) = true
  | .nil => ⟨fun _ j hj => by rw [Fo.len] at hj; omega, fun _ => rfl⟩
  | .cons d k r => by
    rw [nodesB]
    constructor
    · intro h j hj
      simp only [Bool.and_eq_true] at h
      cases j with
      | zero => rw [Fo.get_zero]; unfold exB; simp [h.1.1, h.1.2]
      | succ j => rw [Fo.get_succ]; exact (Fo.nodes_get r).1 h.2 j (by rw [Fo.len] at hj; omega)
    · intro h
      have h0 := h 0 (by rw [Fo.len]; omega)
      rw [Fo.get_zero] at h0
      unfold exB at h0
      simp only [Bool.and_eq_true] at h0 ⊢
      exact ⟨h0, (Fo.nodes_get r).2 fun j hj => by have := h (j + 1) (by rw [Fo.len]; omega); rwa [Fo.get_succ] at this⟩
end Go.Proofs.YtjmipikahaoblaaGreatDoor.Syn
namespace Go.Proofs.YtjmipikahaoblaaGreatDoor.Syn
open Go.RowKit Go.Lib Go.Proofs.YtjmipikahaoblaaGreatDoor.Bas Go.Proofs.YtjmipikahaoblaaGreatDoor.Cal Go.Proofs.YtjmipikahaoblaaGreatDoor.Lx Go.Proofs.YtjmipikahaoblaaGreatDoor.Sc
set_option linter.unusedVariables false

/-- The names of the nodes that consist of a name, in the order of the text. -/
def nmsF : Fo → List (List UInt8)
  | .nil => []
  | .cons d k r => ((if d.op = 3 then [d.nm] else []) ++ nmsF k) ++ nmsF r
def nmsE (e : Ex) : List (List UInt8) := (if e.d.op = 3 then [e.d.nm] else []) ++ nmsF e.kids
/-- A name is put into a list in ascending order, unless it is there. -/
def putL : List (List UInt8) → List UInt8 → List (List UInt8)
  | [], s => [s]
  | x :: r, s => if s ≤ x then (if s < x then s :: x :: r else x :: r) else x :: putL r s
def gatherL (l : List (List UInt8)) (N : List (List UInt8)) : List (List UInt8) := N.foldl putL l
theorem gather_app (l N M : List (List UInt8)) : gatherL l (N ++ M) = gatherL (gatherL l N) M := by unfold gatherL; rw [List.foldl_append]
abbrev Asc (l : List (List UInt8)) : Prop := l.Pairwise (· < ·)
theorem l_le_of_not (x y : List UInt8) (h : ¬ x ≤ y) : y < x := List.not_le.1 h
theorem l_lt_of (x y : List UInt8) (h : x ≤ y) (hn : x ≠ y) : x < y := List.not_le.1 fun h2 => hn (List.le_antisymm h h2)
theorem l_ltle (x y z : List UInt8) (h : x < y) (h2 : y ≤ z) : x < z := Classical.byContradiction fun hn => absurd (List.le_trans h2 (List.not_lt.1 hn)) (List.not_le.2 h)
theorem l_lelt (x y z : List UInt8) (h : x ≤ y) (h2 : y < z) : x < z := Classical.byContradiction fun hn => absurd (List.le_trans (List.not_lt.1 hn) h) (List.not_le.2 h2)
theorem put_mem (l : List (List UInt8)) (s a : List UInt8) : a ∈ putL l s ↔ a = s ∨ a ∈ l := by
  induction l with
  | nil => simp [putL]
  | cons x r ih =>
    rw [putL]
    split
    · rename_i h
      split
      · simp
      · rename_i h2
        have : s = x := List.le_antisymm h (List.not_lt.1 h2)
        subst this
        simp
    · rw [List.mem_cons, ih, List.mem_cons]
      constructor
      · rintro (h | h | h)
        · exact .inr (.inl h)
        · exact .inl h
        · exact .inr (.inr h)
      · rintro (h | h | h)
        · exact .inr (.inl h)
        · exact .inl h
        · exact .inr (.inr h)
theorem put_asc (l : List (List UInt8)) (s : List UInt8) (h : Asc l) : Asc (putL l s) := by
  induction l with
  | nil => exact List.pairwise_singleton _ _
  | cons x r ih =>
    obtain ⟨h1, h2⟩ := List.pairwise_cons.1 h
    rw [putL]
    split
    · split
      · rename_i hlt
        refine List.pairwise_cons.2 ⟨fun a ha => ?_, h⟩
        rcases List.mem_cons.1 ha with rfl | ha
        · exact hlt
        · exact List.lt_trans hlt (h1 a ha)
      · exact h
    · rename_i hx
      refine List.pairwise_cons.2 ⟨fun a ha => ?_, ih h2⟩
      rcases (put_mem r s a).1 ha with rfl | ha
      · exact l_le_of_not _ _ hx
      · exact h1 a ha
theorem gather_asc (N : List (List UInt8)) : ∀ l, Asc l → Asc (gatherL l N) := by
  induction N with
  | nil => intro l h; exact h
  | cons s r ih => intro l h; exact ih _ (put_asc l s h)
theorem gather_mem (N : List (List UInt8)) (a : List UInt8) : ∀ l, a ∈ gatherL l N ↔ a ∈ N ∨ a ∈ l := by
  induction N with
  | nil => intro l; simp [gatherL]
  | cons s r ih =>
    intro l
    show a ∈ gatherL (putL l s) r ↔ _
    rw [ih, put_mem, List.mem_cons]
    constructor
    · rintro (h | h | h)
      · exact .inl (.inr h)
      · exact .inl (.inl h)
      · exact .inr h
    · rintro ((h | h) | h)
      · exact .inr (.inl h)
      · exact .inl h
      · exact .inr (.inr h)
theorem asc_uniq : ∀ (l m : List (List UInt8)), Asc l → Asc m → (∀ a, a ∈ l ↔ a ∈ m) → l = m
  | [], [], _, _, _ => rfl
  | [], y :: m, _, _, h => absurd ((h y).2 (by simp)) (by simp)
  | x :: l, [], _, _, h => absurd ((h x).1 (by simp)) (by simp)
  | x :: l, y :: m, hl, hm, h => by
    obtain ⟨l1, l2⟩ := List.pairwise_cons.1 hl
    obtain ⟨m1, m2⟩ := List.pairwise_cons.1 hm
    have e : x = y := by
      rcases List.mem_cons.1 ((h x).1 (by simp)) with e | e
      · exact e
      · rcases List.mem_cons.1 ((h y).2 (by simp)) with e2 | e2
        · exact e2.symm
        · exact absurd (List.lt_trans (m1 x e) (l1 y e2)) (List.lt_irrefl _)
    subst e
    rw [asc_uniq l m l2 m2 fun a => ?_]
    constructor
    · intro ha
      rcases List.mem_cons.1 ((h a).1 (by simp [ha])) with e | e
      · subst e; exact absurd (l1 a ha) (List.lt_irrefl _)
      · exact e
    · intro ha
      rcases List.mem_cons.1 ((h a).2 (by simp [ha])) with e | e
      · subst e; exact absurd (m1 a ha) (List.lt_irrefl _)
      · exact e
abbrev srtL (N : List (List UInt8)) : List (List UInt8) := N.mergeSort fun x y => decide (x ≤ y)
theorem srt_le (N : List (List UInt8)) : (srtL N).Pairwise (· ≤ ·) := by
  have := List.pairwise_mergeSort (le := fun x y : List UInt8 => decide (x ≤ y)) (fun a b c h1 h2 => by
    simp only [decide_eq_true_eq] at *
    exact List.le_trans h1 h2) (fun a b => by
    simp only [Bool.or_eq_true, decide_eq_true_eq]
    exact List.le_total a b) N
  exact this.imp fun h => of_decide_eq_true h
theorem getb {l : List (List UInt8)} {j : Nat} (h : j < l.length) : l.toArray[j]! = l[j] := by simp [h]
theorem compact_mem (l : List (List UInt8)) (a : List UInt8) : a ∈ Lib.compact l ↔ a ∈ l := by
  unfold Lib.compact compactUpTo
  rw [List.mem_map]
  constructor
  · rintro ⟨j, hj, rfl⟩
    have hj' := List.mem_range.1 (List.mem_filter.1 hj).1
    rw [getb hj']
    exact List.getElem_mem _
  · intro ha
    obtain ⟨i, hi, rfl⟩ := List.getElem_of_mem ha
    have key : ∀ i, (hi : i < l.length) → ∃ j, j ≤ i ∧ keeps l.toArray j = true ∧ l.toArray[j]! = l[i] := by
      intro i
      induction i with
      | zero => intro hi; exact ⟨0, Nat.le_refl _, by simp [keeps], getb hi⟩
      | succ i ih =>
        intro hi
        by_cases hk : keeps l.toArray (i + 1) = true
        · exact ⟨i + 1, Nat.le_refl _, hk, getb hi⟩
        · obtain ⟨j, h1, h2, h3⟩ := ih (by omega)
          refine ⟨j, by omega, h2, ?_⟩
          rw [h3]
          unfold keeps at hk
          have hk' := of_decide_eq_false (by simpa using hk : decide (i + 1 = 0 ∨ l.toArray[i + 1]! ≠ l.toArray[i + 1 - 1]!) = false)
          have h4 : l.toArray[i + 1]! = l.toArray[i + 1 - 1]! := Classical.byContradiction fun h => hk' (.inr h)
          rw [getb hi, Nat.add_sub_cancel, getb (show i < l.length by omega)] at h4
          exact h4.symm
    obtain ⟨j, h1, h2, h3⟩ := key i hi
    exact ⟨j, List.mem_filter.2 ⟨List.mem_range.2 (by omega), h2⟩, h3⟩
theorem compact_asc (l : List (List UInt8)) (h : l.Pairwise (· ≤ ·)) : Asc (Lib.compact l) := by
  have hle : ∀ i j, i ≤ j → (hj : j < l.length) → l.toArray[i]! ≤ l.toArray[j]! := fun i j hij hj => by
    rw [getb (show i < l.length by omega), getb hj]
    rcases Nat.lt_or_eq_of_le hij with h1 | h1
    · exact List.pairwise_iff_getElem.1 h i j _ _ h1
    · subst h1; exact List.le_refl _
  unfold Lib.compact compactUpTo Asc
  rw [List.pairwise_map, List.pairwise_filter]
  refine List.pairwise_lt_range.imp_of_mem fun {i j} hi hj hij hki hkj => ?_
  have hj' := List.mem_range.1 hj
  unfold keeps at hkj
  rcases of_decide_eq_true hkj with h0 | h0
  · omega
  · exact l_lelt _ _ _ (hle i (j - 1) (by omega) (by omega)) (l_lt_of _ _ (hle (j - 1) j (by omega) hj') (fun e => h0 e.symm))
/-- Sorted and each once: what Names is specified to return. -/
theorem names_eq (N : List (List UInt8)) : Lib.compact (srtL N) = gatherL [] N :=
  asc_uniq _ _ (compact_asc _ (srt_le N)) (gather_asc N [] List.Pairwise.nil) fun a => by
    rw [compact_mem, gather_mem, List.mem_mergeSort]
    simp
theorem Fo.take_app (F : Fo) (k : Nat) (h : k < F.len) : nmsF (F.take (k + 1)) = nmsF (F.take k) ++ nmsE (F.get k) := by
  induction F generalizing k with
  | nil => rw [Fo.len] at h; omega
  | cons d kk r _ ih =>
    cases k with
    | zero =>
      show nmsF (.cons d kk (r.take 0)) = nmsF .nil ++ _
      rw [show r.take 0 = Fo.nil from rfl, nmsF, nmsF, Fo.get_zero, nmsE]
      simp [nmsF]
    | succ k =>
      rw [Fo.len] at h
      show nmsF (.cons d kk (r.take (k + 1))) = nmsF (.cons d kk (r.take k)) ++ _
      rw [nmsF, nmsF, ih k (by omega), Fo.get_succ]
      simp [List.append_assoc]
end Go.Proofs.YtjmipikahaoblaaGreatDoor.Syn
namespace Go.Proofs.YtjmipikahaoblaaGreatDoor.Syn
open Go.RowKit Go.WideShapes Go.ChangeShapes Go.Joins Go.Lib Go.Proofs.YtjmipikahaoblaaGreatDoor.Bas Go.Proofs.YtjmipikahaoblaaGreatDoor.Cal Go.Proofs.YtjmipikahaoblaaGreatDoor.Lx Go.Proofs.YtjmipikahaoblaaGreatDoor.Sc
set_option linter.unusedVariables false

theorem cells_ex : Tryz.prog.cellsOf 25 = 6 := by kernel_rfl
theorem cells_exs : Tryz.prog.cellsOf 23 = 1 := by kernel_rfl
theorem array6 {α : Type} {cs : Array α} (h : cs.size = 6) : ∃ c0 c1 c2 c3 c4 c5, cs = #[c0, c1, c2, c3, c4, c5] := by
  obtain ⟨l⟩ := cs
  match l, h with
  | [c0, c1, c2, c3, c4, c5], _ => exact ⟨c0, c1, c2, c3, c4, c5, rfl⟩
section
variable {H : Type} {enc : TypeId × Value → H} {P : Program} {w : World} {base : Nat} {spare : Nat → Bool} {held : Bool}
theorem trod_struct6 {t : TypeId} {f0 f1 f2 f3 f4 f5 : Field} {fuel : Nat} {cs : List Value} {x : DataW H × List MemPlace} (ht : P.underlying t = some (.struct #[f0, f1, f2, f3, f4, f5])) (h : DataW.trod enc P w base spare held fuel t cs = some x) :
    ∃ y0 y1 y2 y3 y4 y5 n, fuel = n + 1 ∧ cs.length = P.cellsOf t ∧ DataW.trod enc P w base spare held n f0.type ((cs.drop f0.offset).take (P.cellsOf f0.type)) = some y0 ∧
      DataW.trod enc P w base spare held n f1.type ((cs.drop f1.offset).take (P.cellsOf f1.type)) = some y1 ∧ DataW.trod enc P w base spare held n f2.type ((cs.drop f2.offset).take (P.cellsOf f2.type)) = some y2 ∧
      DataW.trod enc P w base spare held n f3.type ((cs.drop f3.offset).take (P.cellsOf f3.type)) = some y3 ∧ DataW.trod enc P w base spare held n f4.type ((cs.drop f4.offset).take (P.cellsOf f4.type)) = some y4 ∧ DataW.trod enc P w base spare held n f5.type ((cs.drop f5.offset).take (P.cellsOf f5.type)) = some y5 := by
  obtain ⟨xs, n, e, rfl, hl, hlen, hf⟩ := DataW.trod_struct ht h
  match xs, hlen with
  | [y0, y1, y2, y3, y4, y5], _ => exact ⟨y0, y1, y2, y3, y4, y5, n, e, hl, by simpa using hf 0 f0 rfl, by simpa using hf 1 f1 rfl, by simpa using hf 2 f2 rfl, by simpa using hf 3 f3 rfl, by simpa using hf 4 f4 rfl, by simpa using hf 5 f5 rfl⟩
/-- A slice opened at every index, with its fuel. -/
theorem open_slice_n {t e : TypeId} {fuel : Nat} {cs : List Value} {x : DataW H × List MemPlace} (ht : P.underlying t = some (.slice e)) (h : DataW.trod enc P w base spare held fuel t cs = some x) :
    cs = [.slice none 0 0] ∨ ∃ (a : Addr) (len cap n : Nat), fuel = n + 1 ∧ cs = [.slice (some a) len cap] ∧ len ≤ cap ∧ cap ≤ maxLen ∧
      ∀ i, i < len → ∃ cs' z, w.cells? base (a.add (i * P.cellsOf e)) (P.cellsOf e) = some cs' ∧ DataW.trod enc P w base spare held n e cs' = some z := by
  rcases DataW.trod_slice ht h with ⟨h0, _⟩ | ⟨a, len, cap, elems, rest, n, hn, rfl, rfl, hb, hl, hm, hlen, hel, hsp, hns⟩
  · exact Or.inl h0
  · refine Or.inr ⟨a, len, cap, n, hn, rfl, hl, hm, fun i hi => ?_⟩
    have := hel i hi
    rw [List.getElem?_eq_getElem (by omega)] at this
    obtain ⟨cs', h1, h2⟩ := Option.bind_eq_some_iff.1 this
    exact ⟨cs', _, h1, h2⟩
end
instance : Inhabited Ex := ⟨e0⟩
theorem ofL_get (l : List Ex) (j : Nat) : (Fo.ofL l).get j = l.getD j e0 := by unfold Fo.get; rw [Fo.toL_ofL]
theorem ofL_len (l : List Ex) : (Fo.ofL l).len = l.length := by rw [← Fo.toL_length, Fo.toL_ofL]
/-- An expression's parts, read. -/
def Six (W : World) (cs : List Value) (e : Ex) : Prop := ∃ u a, cs = [.int .i64 e.d.op, .string (tx e.d.nm), u, .int .i64 e.d.lo, .int .i64 e.d.hi, a] ∧ StrsAt W u e.d.ws ∧ FoAt W a e.kids ∧ ExWf e
set_option maxRecDepth 20000 in
theorem opened_six {H : Type} {enc : TypeId × Value → H} {W : World} {fuel : Nat} {cs : List Value} {y : DataW H × List MemPlace}
    (ih : ∀ (f : Nat) (u : Value) (y : DataW H × List MemPlace), f < fuel → DataW.trod enc Tryz.prog W 0 (fun _ => true) true f 23 [u] = some y → ∃ F, FoAt W u F ∧ F.len ≤ 9223372036854775807 ∧ FoWf F)
    (hf : DataW.trod enc Tryz.prog W 0 (fun _ => true) true fuel 25 cs = some y) : ∃ e, Six W cs e := by
  obtain ⟨y0, y1, y2, y3, y4, y5, k, hk, hl, t0, t1, t2, t3, t4, t5⟩ := trod_struct6 Tryz.underlying25 hf
  rw [cells_ex] at hl
  obtain ⟨v0, v1, v2, v3, v4, v5, hcs4⟩ := array6 (cs := cs.toArray) (by simpa using hl)
  have hcs5 : cs = [v0, v1, v2, v3, v4, v5] := by simpa using congrArg Array.toList hcs4
  subst hcs5
  simp [cells_str, cells_i, cells_ws, cells_exs] at t0 t1 t2 t3 t4 t5
  obtain ⟨k0, e0, _, w0⟩ := DataW.trod_int Tryz.underlying3 t0
  obtain ⟨s1, e1, _, w1⟩ := DataW.trod_string Tryz.underlying9 t1
  obtain ⟨ws, g, hws⟩ := opened_strs t2
  obtain ⟨k3, e3, _, w3⟩ := DataW.trod_int Tryz.underlying3 t3
  obtain ⟨k4, e4, _, w4⟩ := DataW.trod_int Tryz.underlying3 t4
  obtain ⟨F, hF, hFl, hFw⟩ := ih k v5 _ (by omega) t5
  obtain ⟨l, rfl, hll⟩ := tx_of2 s1
  simp at e0 e1 e3 e4
  subst e0; subst e1; subst e3; subst e4
  exact ⟨⟨⟨k0, l, ws, k3, k4⟩, F⟩, v2, v5, rfl, g, hF, ⟨⟨by rw [hll]; unfold maxLen at w1; omega, hws⟩, w0, w3, w4⟩, hFl, hFw⟩
set_option maxRecDepth 20000 in
theorem opened_exs {H : Type} {enc : TypeId × Value → H} {W : World} : ∀ (fuel : Nat) (u : Value) (y : DataW H × List MemPlace),
    DataW.trod enc Tryz.prog W 0 (fun _ => true) true fuel 23 [u] = some y → ∃ F, FoAt W u F ∧ F.len ≤ 9223372036854775807 ∧ FoWf F := by
  intro fuel
  induction fuel using Nat.strongRecOn with
  | ind fuel ih =>
    intro u y hf
    rcases open_slice_n Tryz.underlying23 hf with hcs | ⟨a, len, cap, n, hn, hcs, hl, hm, hel⟩
    · simp at hcs
      subst hcs
      exact ⟨.nil, foS_nil _ W, by rw [Fo.len]; omega, trivial⟩
    · simp at hcs
      subst hcs
      have each : ∀ i, i < len → ∃ q : Ex, ∃ cs, W.cells? 0 (a.add (i * 6)) 6 = some cs ∧ Six W cs q := by
        intro i hi
        obtain ⟨cs', z, h1, h2⟩ := hel i hi
        rw [cells_ex] at h1
        obtain ⟨e, he⟩ := opened_six (fun f u y hfu => ih f (by omega) u y) h2
        exact ⟨e, cs', h1, he⟩
      obtain ⟨q, hq⟩ := Go.Deep.choose_lt each
      have hg : ∀ j, j < len → (Fo.ofL ((List.range len).map q)).get j = q j := fun j hj => by
        rw [ofL_get]; simp [List.getD_eq_getElem?_getD, hj]
      have hln : (Fo.ofL ((List.range len).map q)).len = len := by rw [ofL_len]; simp
      refine ⟨Fo.ofL ((List.range len).map q), ⟨some a, cap, by rw [hln], ⟨by rw [hln]; exact hl, fun e => by cases e⟩, fun hpos => ?_⟩, by rw [hln]; unfold maxLen at hm; omega, FoWf.of _ fun j hj => ?_⟩
      · rw [hln] at hpos
        have hcell : ∀ i, i < len → ∃ u' a', W.cell? ((a.add (i * 6)).add 0) = some (.int .i64 (q i).d.op) ∧ W.cell? ((a.add (i * 6)).add 1) = some (.string (tx (q i).d.nm)) ∧ W.cell? ((a.add (i * 6)).add 2) = some u' ∧ W.cell? ((a.add (i * 6)).add 3) = some (.int .i64 (q i).d.lo) ∧ W.cell? ((a.add (i * 6)).add 4) = some (.int .i64 (q i).d.hi) ∧ W.cell? ((a.add (i * 6)).add 5) = some a' ∧ StrsAt W u' (q i).d.ws ∧ FoAt W a' (q i).kids := by
          intro i hi
          obtain ⟨cs, h1, u', a', rfl, h2, h3, _⟩ := hq i hi
          obtain ⟨_, hlen, hc⟩ := World.cells?_some h1
          exact ⟨u', a', by simpa using hc 0 (by omega), by simpa using hc 1 (by omega), by simpa using hc 2 (by omega), by simpa using hc 3 (by omega), by simpa using hc 4 (by omega), by simpa using hc 5 (by omega), h2, h3⟩
        obtain ⟨_, _, hp0, _⟩ := hcell 0 hpos
        rw [Go.Deep.add_add] at hp0
        obtain ⟨b, off, rfl⟩ := plain_of (by simpa using hp0)
        refine ⟨b, off, rfl, trivial, RowS.of _ _ _ fun j hj => ?_⟩
        rw [hln] at hj
        rw [hg j hj]
        obtain ⟨u', a', h0, h1, h2, h3, h4, h5, h6, h7⟩ := hcell j hj
        simp only [Go.WideShapes.add_plain, Nat.add_zero] at h0 h1 h2 h3 h4 h5
        exact ⟨⟨h0, h1, ⟨u', h2, strsS_of h6⟩, h3, h4⟩, a', h5, h7⟩
      · rw [hln] at hj
        rw [hg j hj]
        obtain ⟨cs, h1, u', a', _, _, _, h⟩ := hq j hj
        exact h
set_option maxRecDepth 20000 in
theorem opened_expr {H : Type} {enc : TypeId × Value → H} {W : World} {r : Reach} {b0 : Nat} {v : Value} {d : DataW H} {p : List MemPlace} (hv : Value.okWide Tryz.prog W r b0 25 v)
    (h0 : DataW.Trod enc Tryz.prog W 0 (fun _ => true) true 25 v d p) : ∃ (e : Ex) (u a : Value), v = .agg #[.int .i64 e.d.op, .string (tx e.d.nm), u, .int .i64 e.d.lo, .int .i64 e.d.hi, a] ∧ StrsAt W u e.d.ws ∧ FoAt W a e.kids ∧ ExWf e := by
  obtain ⟨cs, rfl, hsz⟩ := okWide_struct Tryz.underlying25 hv
  obtain ⟨fuel, hf⟩ := h0
  obtain ⟨e, u, a, hcs, h1, h2, h3⟩ := opened_six (fun f u y _ => opened_exs f u y) hf
  refine ⟨e, u, a, ?_, h1, h2, h3⟩
  simp [Value.cells] at hcs
  have : cs = cs.toList.toArray := by simp
  rw [this, hcs]
end Go.Proofs.YtjmipikahaoblaaGreatDoor.Syn
namespace Go.Proofs.YtjmipikahaoblaaGreatDoor.Syn
open Go.RowKit Go.Lib Go.Proofs.YtjmipikahaoblaaGreatDoor.Bas Go.Proofs.YtjmipikahaoblaaGreatDoor.Cal Go.Proofs.YtjmipikahaoblaaGreatDoor.Lx Go.Proofs.YtjmipikahaoblaaGreatDoor.Sc
set_option linter.unusedVariables false

/-- The six cells of an expression. -/
def XAt (W : World) (b : Nat) (d : Nd) (u a : Value) : Prop := b < W.heap.size ∧ W.cell? ⟨b, 0, none⟩ = some (.int .i64 d.op) ∧ W.cell? ⟨b, 1, none⟩ = some (.string (tx d.nm)) ∧ W.cell? ⟨b, 2, none⟩ = some u ∧ W.cell? ⟨b, 3, none⟩ = some (.int .i64 d.lo) ∧ W.cell? ⟨b, 4, none⟩ = some (.int .i64 d.hi) ∧ W.cell? ⟨b, 5, none⟩ = some a
/-- What lies in such a block. -/
abbrev xo (d : Nd) (u a : Value) : Obj := .cells #[.int .i64 d.op, .string (tx d.nm), u, .int .i64 d.lo, .int .i64 d.hi, a] 25
theorem XAt.new (w : World) (d : Nd) (u a : Value) : XAt (w.alloc (xo d u a)) w.heap.size d u a := by
  refine ⟨by simp, by simp, by simp, by simp, by simp, by simp, by simp⟩
theorem XAt.drewN {W : World} {b : Nat} {d : Nd} {u a : Value} (h : XAt W b d u a) (n : Nat) : XAt (W.drewN n) b d u a := h
theorem XAt.block {w w' : World} {b : Nat} {d : Nd} {u a : Value} (h : XAt w b d u a) (hb : w'.heap[b]? = w.heap[b]?) (hs : w.heap.size ≤ w'.heap.size) : XAt w' b d u a := by
  obtain ⟨h0, h1, h2, h3, h4, h5, h6⟩ := h
  exact ⟨Nat.lt_of_lt_of_le h0 hs, cell_same h1 fun _ => hb, cell_same h2 fun _ => hb, cell_same h3 fun _ => hb, cell_same h4 fun _ => hb, cell_same h5 fun _ => hb, cell_same h6 fun _ => hb⟩
theorem XAt.keep {w w' : World} {b : Nat} {d : Nd} {u a : Value} (h : XAt w b d u a) (hb : Below w.heap.size w w') : XAt w' b d u a := h.block (hb.block b h.1) hb.size
theorem size_pos (e : Ex) : 1 ≤ e.size := by unfold Ex.size; omega
set_option maxRecDepth 8000 in
set_option maxHeartbeats 8000000 in
theorem size_any : ∀ (n : Nat) (e : Ex) (v : Value) (w : World), e.size ≤ n → n ≤ 1000000000 → ExAt w v e → Calls Tryz.prog 17 #[v] w (ErrBe e.size w) := by
  intro n
  induction n with
  | zero => intro e v w h; have := size_pos e; omega
  | succ n ih =>
    intro e v w hsz hn9 h
    obtain ⟨u, a, rfl, hu, hF⟩ := h
    have B0 := Lib.hid (alloc_at w (xo e.d u a))
    have X0 := Lib.hid (XAt.new w e.d u a)
    have F0 := Lib.hid (hF.below B0.out)
    have hT := Lib.hid (fun k (hk : k < e.kids.len) => Fo.sizes_take_succ e.kids k hk)
    have hE := Lib.hid (show ∀ k, k = e.kids.len → 1 + (e.kids.take k).sizes = e.size from fun k hk => by rw [hk, Fo.take_len]; rfl)
    have hG := Lib.hid (show ∀ k, k < e.kids.len → (e.kids.get k).size ≤ n from fun k hk => by have := Fo.size_get_le e.kids k hk; unfold Ex.size at hsz; omega)
    have hL := Lib.hid (show ∀ k, (e.kids.take k).sizes ≤ 1000000000 from fun k => by have := Fo.sizes_take_le e.kids k; have := Fo.deep_le_sizes e.kids; unfold Ex.size at hsz; omega)
    have hlen : e.kids.len ≤ 1000000000 := by have := Fo.len_le_sizes e.kids; unfold Ex.size at hsz; omega
    have hz0 : (e.kids.take 0).sizes = 0 := rfl
    obtain ⟨pu, cu, rfl, _, _⟩ := hu
    obtain ⟨p, c, rfl, _, _⟩ := hF
    unfold exV
    generalize e.size = SZ at *
    obtain ⟨F, hFe⟩ : ∃ F, e.kids = F := ⟨_, rfl⟩
    rw [hFe] at B0 X0 F0 hT hE hL hG hlen hz0 ⊢
    clear hsz hFe
    generalize e.d = d at *
    generalize d.ws.length = nw at *
    obtain ⟨m, hm⟩ : ∃ m, F.len = m := ⟨_, rfl⟩
    have hm' := Lib.hid hm
    rw [hm] at B0 X0 F0 hT hE hG hlen ⊢
    clear hm
    go_enter Tryz.func17, Tryz.ntmps17
    go_upto_region 1 with fail
    obtain ⟨b0, hb0⟩ : ∃ b, w.heap.size = b := ⟨_, rfl⟩
    rw [hb0] at X0 ⊢
    clear hb0
    generalize w.alloc (xo d (.slice pu nw cu) (.slice p m c)) = W0 at *
    have x5 := X0.out.2.2.2.2.2.2
    go_wp2_with fail
    go_loopw [3, 9] (fun x3 x9 wr => ∃ (k : Nat) (s : Int), k ≤ m ∧ x9 = .int .i64 k ∧ x3 = .int .i64 s ∧ 0 ≤ s ∧ s ≤ 1000000001 ∧ Hid (s = ((1 + (F.take k).sizes : Nat) : Int)) ∧ Hid (Below W0.heap.size W0 wr)) (fun _ x9 _ => m - (RowKit.intOf x9).toNat)
    case atStart => exact ⟨0, 1, Nat.zero_le _, rfl, rfl, by decide, by decide, Lib.hid (by rw [hz0]; rfl), Lib.hid (Below.refl _ _)⟩
    case round =>
      obtain ⟨k, s, hk, rfl, rfl, hs0, hs1, hS, hB⟩ := hrel
      by_cases hlt : k < m
      · obtain ⟨b, o, c', hv, _, hbl, ue, ae, y0, y1, y2, y3, y4, y5, z1, z2⟩ := (F0.out.below hB.out).elem k (by rw [hm'.out]; exact hlt)
        obtain ⟨rfl, hmm, rfl⟩ := Value.slice.inj hv
        clear hmm
        have hk64 : IntKind.i64.wrap ((k : Int) + 1) = (k : Int) + 1 := IntWalk.i64_in _ (by omega)
        have hx := Lib.hid (show ExS Any wr (exV (F.get k).d ue ae) (F.get k) from ⟨ue, ae, rfl, z1, z2⟩)
        have hgn := hG.out k hlt
        have hT1 := hT.out k hlt
        have hL1 := hL.out k
        have hL2 := hL.out (k + 1)
        obtain ⟨q1, k1, rfl, _, _⟩ := z1
        obtain ⟨q2, k2, rfl, _, _⟩ := z2
        clear hv
        have B1 := Lib.hid (hB.out.alloc hB.out.size (xo (F.get k).d (.slice q1 (F.get k).d.ws.length k1) (.slice q2 (F.get k).kids.len k2)))
        have hal := alloc_at wr (xo (F.get k).d (.slice q1 (F.get k).d.ws.length k1) (.slice q2 (F.get k).kids.len k2))
        have K1 := XAt.new wr (F.get k).d (.slice q1 (F.get k).d.ws.length k1) (.slice q2 (F.get k).kids.len k2)
        have cS := Lib.hid (ih (F.get k) _ _ hgn (by omega) (hx.out.below hal))
        clear x5
        go_upto_region 5 with fail
        clear y0 y1 y2 y3 y4 y5 hal
        obtain ⟨b5, hb5⟩ : ∃ b, wr.heap.size = b := ⟨_, rfl⟩
        rw [hb5] at K1 ⊢
        clear hb5
        generalize wr.alloc (xo (F.get k).d (.slice q1 (F.get k).d.ws.length k1) (.slice q2 (F.get k).kids.len k2)) = W1 at *
        obtain ⟨_, g0, g1, g2, g3, g4, g5⟩ := K1
        unfold exV at cS
        generalize (F.get k).size = gs at *
        go_wp2_with fail
        refine cS.out.mono ?_; rintro e w' ⟨rfl, hB2⟩
        have B2 := Lib.hid (B1.out.trans (hB2.mono B1.out.size))
        have hSn := Lib.hid (show s + (gs : Int) = ((1 + (F.take (k + 1)).sizes : Nat) : Int) ∧ s + (gs : Int) ≤ 1000000001 from by have := hS.out; omega)
        have hgb : s + (gs : Int) ≤ 1000000001 := hSn.out.2
        have e2 : IntKind.i64.wrap (s + (gs : Int)) = s + (gs : Int) := IntWalk.i64_in _ (by omega)
        clear hT1 hL1 hL2 hB2 B1 hB cS hS
        go_wp2_with fail
        go_roundw
        case rel => exact ⟨k + 1, s + (gs : Int), by omega, by go_num, rfl, by omega, hgb, Lib.hid hSn.out.1, B2⟩
        case measure => simp [RowKit.intOf]; omega
      · have hEk := Lib.hid (hE.out k (by omega))
        go_wp2_with fail
        go_ret
        exact ⟨ret_i (by rw [hS.out, hEk.out]), B0.out.trans (hB.out.mono B0.out.size)⟩
set_option maxRecDepth 8000 in
set_option maxHeartbeats 8000000 in
theorem depth_any : ∀ (n : Nat) (e : Ex) (v : Value) (w : World), e.size ≤ n → n ≤ 1000000000 → ExAt w v e → Calls Tryz.prog 19 #[v] w (ErrBe e.depth w) := by
  intro n
  induction n with
  | zero => intro e v w h; have := size_pos e; omega
  | succ n ih =>
    intro e v w hsz hn9 h
    obtain ⟨u, a, rfl, hu, hF⟩ := h
    have B0 := Lib.hid (alloc_at w (xo e.d u a))
    have X0 := Lib.hid (XAt.new w e.d u a)
    have F0 := Lib.hid (hF.below B0.out)
    have hT := Lib.hid (fun k (hk : k < e.kids.len) => Fo.deep_take_succ e.kids k hk)
    have hE := Lib.hid (show ∀ k, k = e.kids.len → 1 + (e.kids.take k).deep = e.depth from fun k hk => by rw [hk, Fo.take_len]; rfl)
    have hG := Lib.hid (show ∀ k, k < e.kids.len → (e.kids.get k).size ≤ n from fun k hk => by have := Fo.size_get_le e.kids k hk; unfold Ex.size at hsz; omega)
    have hL := Lib.hid (show ∀ k, (e.kids.take k).deep ≤ 1000000000 from fun k => by have := Fo.deep_take_le e.kids k; have := Fo.deep_le_sizes e.kids; unfold Ex.size at hsz; omega)
    have hlen : e.kids.len ≤ 1000000000 := by have := Fo.len_le_sizes e.kids; unfold Ex.size at hsz; omega
    have hz0 : (e.kids.take 0).deep = 0 := rfl
    obtain ⟨pu, cu, rfl, _, _⟩ := hu
    obtain ⟨p, c, rfl, _, _⟩ := hF
    unfold exV
    generalize e.depth = SZ at *
    obtain ⟨F, hFe⟩ : ∃ F, e.kids = F := ⟨_, rfl⟩
    rw [hFe] at B0 X0 F0 hT hE hL hG hlen hz0 ⊢
    clear hsz hFe
    generalize e.d = d at *
    generalize d.ws.length = nw at *
    obtain ⟨m, hm⟩ : ∃ m, F.len = m := ⟨_, rfl⟩
    have hm' := Lib.hid hm
    rw [hm] at B0 X0 F0 hT hE hG hlen ⊢
    clear hm
    go_enter Tryz.func19, Tryz.ntmps19
    go_upto_region 1 with fail
    obtain ⟨b0, hb0⟩ : ∃ b, w.heap.size = b := ⟨_, rfl⟩
    rw [hb0] at X0 ⊢
    clear hb0
    generalize w.alloc (xo d (.slice pu nw cu) (.slice p m c)) = W0 at *
    have x5 := X0.out.2.2.2.2.2.2
    go_wp2_with fail
    go_loopw [3, 9] (fun x3 x9 wr => ∃ (k : Nat) (s : Int), k ≤ m ∧ x9 = .int .i64 k ∧ x3 = .int .i64 s ∧ 0 ≤ s ∧ s ≤ 1000000001 ∧ Hid (s = (((F.take k).deep : Nat) : Int)) ∧ Hid (Below W0.heap.size W0 wr)) (fun _ x9 _ => m - (RowKit.intOf x9).toNat)
    case atStart => exact ⟨0, 0, Nat.zero_le _, rfl, rfl, by decide, by decide, Lib.hid (by rw [hz0]; rfl), Lib.hid (Below.refl _ _)⟩
    case round =>
      obtain ⟨k, s, hk, rfl, rfl, hs0, hs1, hS, hB⟩ := hrel
      by_cases hlt : k < m
      · obtain ⟨b, o, c', hv, _, hbl, ue, ae, y0, y1, y2, y3, y4, y5, z1, z2⟩ := (F0.out.below hB.out).elem k (by rw [hm'.out]; exact hlt)
        obtain ⟨rfl, hmm, rfl⟩ := Value.slice.inj hv
        clear hmm
        have hk64 : IntKind.i64.wrap ((k : Int) + 1) = (k : Int) + 1 := IntWalk.i64_in _ (by omega)
        have hx := Lib.hid (show ExS Any wr (exV (F.get k).d ue ae) (F.get k) from ⟨ue, ae, rfl, z1, z2⟩)
        have hgn := hG.out k hlt
        have hT1 := hT.out k hlt
        have hL1 := hL.out k
        have hL2 := hL.out (k + 1)
        obtain ⟨q1, k1, rfl, _, _⟩ := z1
        obtain ⟨q2, k2, rfl, _, _⟩ := z2
        clear hv
        have B1 := Lib.hid (hB.out.alloc hB.out.size (xo (F.get k).d (.slice q1 (F.get k).d.ws.length k1) (.slice q2 (F.get k).kids.len k2)))
        have hal := alloc_at wr (xo (F.get k).d (.slice q1 (F.get k).d.ws.length k1) (.slice q2 (F.get k).kids.len k2))
        have K1 := XAt.new wr (F.get k).d (.slice q1 (F.get k).d.ws.length k1) (.slice q2 (F.get k).kids.len k2)
        have cS := Lib.hid (ih (F.get k) _ _ hgn (by omega) (hx.out.below hal))
        clear x5
        go_upto_region 5 with fail
        clear y0 y1 y2 y3 y4 y5 hal
        obtain ⟨b5, hb5⟩ : ∃ b, wr.heap.size = b := ⟨_, rfl⟩
        rw [hb5] at K1 ⊢
        clear hb5
        generalize wr.alloc (xo (F.get k).d (.slice q1 (F.get k).d.ws.length k1) (.slice q2 (F.get k).kids.len k2)) = W1 at *
        obtain ⟨_, g0, g1, g2, g3, g4, g5⟩ := K1
        unfold exV at cS
        generalize (F.get k).depth = gs at *
        go_wp2_with fail
        refine cS.out.mono ?_; rintro e w' ⟨rfl, hB2⟩
        have B2 := Lib.hid (B1.out.trans (hB2.mono B1.out.size))
        obtain ⟨mx, hmx⟩ : ∃ mx, max s (gs : Int) = mx := ⟨_, rfl⟩
        have hSn := Lib.hid (show mx = (((F.take (k + 1)).deep : Nat) : Int) ∧ 0 ≤ mx ∧ mx ≤ 1000000001 from by have := hS.out; omega)
        have hgb := hSn.out.2.2
        have hgb0 := hSn.out.2.1
        clear hT1 hL1 hL2 hB2 B1 hB cS hS
        go_wp2_with fail
        all_goals
          go_roundw
          case rel => exact ⟨k + 1, _, by omega, by go_num, rfl, by omega, by omega, Lib.hid (by have := hSn.out.1; omega), B2⟩
          case measure => simp [RowKit.intOf]; omega
      · have hEk := Lib.hid (hE.out k (by omega))
        have e2 : IntKind.i64.wrap (s + 1) = s + 1 := IntWalk.i64_in _ (by omega)
        go_wp2_with fail
        go_ret
        exact ⟨ret_i (by have h1 := hEk.out; have h2 := hS.out; omega), B0.out.trans (hB.out.mono B0.out.size)⟩
set_option maxRecDepth 8000 in
set_option maxHeartbeats 8000000 in
theorem rall_any : ∀ (n : Nat) (e : Ex) (v : Value) (w : World), e.size ≤ n → n ≤ 1000000000 → ExAt w v e → Calls Tryz.prog 18 #[v] w (ErrBe e.size w) := by
  intro n
  induction n with
  | zero => intro e v w h; have := size_pos e; omega
  | succ n ih =>
    intro e v w hsz hn9 h
    obtain ⟨u, a, rfl, hu, hF⟩ := h
    have B0 := Lib.hid (alloc_at w (xo e.d u a))
    have X0 := Lib.hid (XAt.new w e.d u a)
    have F0 := Lib.hid (hF.below B0.out)
    have hT := Lib.hid (fun k (hk : k < e.kids.len) => Fo.sizes_take_succ e.kids k hk)
    have hE := Lib.hid (show ∀ k, k = e.kids.len → 1 + (e.kids.take k).sizes = e.size from fun k hk => by rw [hk, Fo.take_len]; rfl)
    have hG := Lib.hid (show ∀ k, k < e.kids.len → (e.kids.get k).size ≤ n from fun k hk => by have := Fo.size_get_le e.kids k hk; unfold Ex.size at hsz; omega)
    have hL := Lib.hid (show ∀ k, (e.kids.take k).sizes ≤ 1000000000 from fun k => by have := Fo.sizes_take_le e.kids k; have := Fo.deep_le_sizes e.kids; unfold Ex.size at hsz; omega)
    have hlen : e.kids.len ≤ 1000000000 := by have := Fo.len_le_sizes e.kids; unfold Ex.size at hsz; omega
    have hz0 : (e.kids.take 0).sizes = 0 := rfl
    obtain ⟨pu, cu, rfl, _, _⟩ := hu
    obtain ⟨p, c, rfl, _, _⟩ := hF
    unfold exV
    generalize e.size = SZ at *
    obtain ⟨F, hFe⟩ : ∃ F, e.kids = F := ⟨_, rfl⟩
    rw [hFe] at B0 X0 F0 hT hE hL hG hlen hz0 ⊢
    clear hsz hFe
    generalize e.d = d at *
    generalize d.ws.length = nw at *
    obtain ⟨m, hm⟩ : ∃ m, F.len = m := ⟨_, rfl⟩
    have hm' := Lib.hid hm
    rw [hm] at B0 X0 F0 hT hE hG hlen ⊢
    clear hm
    go_enter Tryz.func18, Tryz.ntmps18
    go_upto_region 1 with fail
    obtain ⟨b0, hb0⟩ : ∃ b, w.heap.size = b := ⟨_, rfl⟩
    rw [hb0] at X0 ⊢
    clear hb0
    generalize w.alloc (xo d (.slice pu nw cu) (.slice p m c)) = W0 at *
    skip
    go_wp2_with fail
    go_loopw [3, 4] (fun x3 x9 wr => ∃ (k : Nat) (s : Int), k ≤ m ∧ x9 = .int .i64 k ∧ x3 = .int .i64 s ∧ 0 ≤ s ∧ s ≤ 1000000001 ∧ Hid (s = ((1 + (F.take k).sizes : Nat) : Int)) ∧ Hid (Below W0.heap.size W0 wr)) (fun _ x9 _ => m - (RowKit.intOf x9).toNat)
    case atStart => exact ⟨0, 1, Nat.zero_le _, rfl, rfl, by decide, by decide, Lib.hid (by rw [hz0]; rfl), Lib.hid (Below.refl _ _)⟩
    case round =>
      obtain ⟨k, s, hk, rfl, rfl, hs0, hs1, hS, hB⟩ := hrel
      by_cases hlt : k < m
      · obtain ⟨b, o, c', hv, _, hbl, ue, ae, y0, y1, y2, y3, y4, y5, z1, z2⟩ := (F0.out.below hB.out).elem k (by rw [hm'.out]; exact hlt)
        obtain ⟨rfl, hmm, rfl⟩ := Value.slice.inj hv
        clear hmm
        have hk64 : IntKind.i64.wrap ((k : Int) + 1) = (k : Int) + 1 := IntWalk.i64_in _ (by omega)
        have hx := Lib.hid (show ExS Any wr (exV (F.get k).d ue ae) (F.get k) from ⟨ue, ae, rfl, z1, z2⟩)
        have hgn := hG.out k hlt
        have hT1 := hT.out k hlt
        have hL1 := hL.out k
        have hL2 := hL.out (k + 1)
        obtain ⟨q1, k1, rfl, _, _⟩ := z1
        obtain ⟨q2, k2, rfl, _, _⟩ := z2
        clear hv
        have B1 := hB
        have cS := Lib.hid (ih (F.get k) _ _ hgn (by omega) hx.out)
        have x5 := (X0.out.keep hB.out).2.2.2.2.2.2
        unfold exV at cS
        generalize (F.get k).size = gs at *
        go_wp2_with fail
        refine cS.out.mono ?_; rintro e w' ⟨rfl, hB2⟩
        have B2 := Lib.hid (B1.out.trans (hB2.mono B1.out.size))
        have hSn := Lib.hid (show s + (gs : Int) = ((1 + (F.take (k + 1)).sizes : Nat) : Int) ∧ s + (gs : Int) ≤ 1000000001 from by have := hS.out; omega)
        have hgb : s + (gs : Int) ≤ 1000000001 := hSn.out.2
        have e2 : IntKind.i64.wrap (s + (gs : Int)) = s + (gs : Int) := IntWalk.i64_in _ (by omega)
        clear hT1 hL1 hL2 hB2 B1 hB cS hS
        go_wp2_with fail
        go_roundw
        case rel => exact ⟨k + 1, s + (gs : Int), by omega, by go_num, rfl, by omega, hgb, Lib.hid hSn.out.1, B2⟩
        case measure => simp [RowKit.intOf]; omega
      · have hEk := Lib.hid (hE.out k (by omega))
        have x5 := (X0.out.keep hB.out).2.2.2.2.2.2
        go_wp2_with fail
        go_ret
        exact ⟨ret_i (by rw [hS.out, hEk.out]), B0.out.trans (hB.out.mono B0.out.size)⟩
set_option maxRecDepth 8000 in
set_option maxHeartbeats 8000000 in
theorem rdepth_any : ∀ (n : Nat) (e : Ex) (v : Value) (w : World), e.size ≤ n → n ≤ 1000000000 → ExAt w v e → Calls Tryz.prog 20 #[v] w (ErrBe e.depth w) := by
  intro n
  induction n with
  | zero => intro e v w h; have := size_pos e; omega
  | succ n ih =>
    intro e v w hsz hn9 h
    obtain ⟨u, a, rfl, hu, hF⟩ := h
    have B0 := Lib.hid (alloc_at w (xo e.d u a))
    have X0 := Lib.hid (XAt.new w e.d u a)
    have F0 := Lib.hid (hF.below B0.out)
    have hT := Lib.hid (fun k (hk : k < e.kids.len) => Fo.deep_take_succ e.kids k hk)
    have hE := Lib.hid (show ∀ k, k = e.kids.len → 1 + (e.kids.take k).deep = e.depth from fun k hk => by rw [hk, Fo.take_len]; rfl)
    have hG := Lib.hid (show ∀ k, k < e.kids.len → (e.kids.get k).size ≤ n from fun k hk => by have := Fo.size_get_le e.kids k hk; unfold Ex.size at hsz; omega)
    have hL := Lib.hid (show ∀ k, (e.kids.take k).deep ≤ 1000000000 from fun k => by have := Fo.deep_take_le e.kids k; have := Fo.deep_le_sizes e.kids; unfold Ex.size at hsz; omega)
    have hlen : e.kids.len ≤ 1000000000 := by have := Fo.len_le_sizes e.kids; unfold Ex.size at hsz; omega
    have hz0 : (e.kids.take 0).deep = 0 := rfl
    obtain ⟨pu, cu, rfl, _, _⟩ := hu
    obtain ⟨p, c, rfl, _, _⟩ := hF
    unfold exV
    generalize e.depth = SZ at *
    obtain ⟨F, hFe⟩ : ∃ F, e.kids = F := ⟨_, rfl⟩
    rw [hFe] at B0 X0 F0 hT hE hL hG hlen hz0 ⊢
    clear hsz hFe
    generalize e.d = d at *
    generalize d.ws.length = nw at *
    obtain ⟨m, hm⟩ : ∃ m, F.len = m := ⟨_, rfl⟩
    have hm' := Lib.hid hm
    rw [hm] at B0 X0 F0 hT hE hG hlen ⊢
    clear hm
    go_enter Tryz.func20, Tryz.ntmps20
    go_upto_region 1 with fail
    obtain ⟨b0, hb0⟩ : ∃ b, w.heap.size = b := ⟨_, rfl⟩
    rw [hb0] at X0 ⊢
    clear hb0
    generalize w.alloc (xo d (.slice pu nw cu) (.slice p m c)) = W0 at *
    skip
    go_wp2_with fail
    go_loopw [3, 4] (fun x3 x9 wr => ∃ (k : Nat) (s : Int), k ≤ m ∧ x9 = .int .i64 k ∧ x3 = .int .i64 s ∧ 0 ≤ s ∧ s ≤ 1000000001 ∧ Hid (s = (((F.take k).deep : Nat) : Int)) ∧ Hid (Below W0.heap.size W0 wr)) (fun _ x9 _ => m - (RowKit.intOf x9).toNat)
    case atStart => exact ⟨0, 0, Nat.zero_le _, rfl, rfl, by decide, by decide, Lib.hid (by rw [hz0]; rfl), Lib.hid (Below.refl _ _)⟩
    case round =>
      obtain ⟨k, s, hk, rfl, rfl, hs0, hs1, hS, hB⟩ := hrel
      by_cases hlt : k < m
      · obtain ⟨b, o, c', hv, _, hbl, ue, ae, y0, y1, y2, y3, y4, y5, z1, z2⟩ := (F0.out.below hB.out).elem k (by rw [hm'.out]; exact hlt)
        obtain ⟨rfl, hmm, rfl⟩ := Value.slice.inj hv
        clear hmm
        have hk64 : IntKind.i64.wrap ((k : Int) + 1) = (k : Int) + 1 := IntWalk.i64_in _ (by omega)
        have hx := Lib.hid (show ExS Any wr (exV (F.get k).d ue ae) (F.get k) from ⟨ue, ae, rfl, z1, z2⟩)
        have hgn := hG.out k hlt
        have hT1 := hT.out k hlt
        have hL1 := hL.out k
        have hL2 := hL.out (k + 1)
        obtain ⟨q1, k1, rfl, _, _⟩ := z1
        obtain ⟨q2, k2, rfl, _, _⟩ := z2
        clear hv
        have B1 := hB
        have cS := Lib.hid (ih (F.get k) _ _ hgn (by omega) hx.out)
        have x5 := (X0.out.keep hB.out).2.2.2.2.2.2
        unfold exV at cS
        generalize (F.get k).depth = gs at *
        go_wp2_with fail
        refine cS.out.mono ?_; rintro e w' ⟨rfl, hB2⟩
        have B2 := Lib.hid (B1.out.trans (hB2.mono B1.out.size))
        obtain ⟨mx, hmx⟩ : ∃ mx, max s (gs : Int) = mx := ⟨_, rfl⟩
        have hSn := Lib.hid (show mx = (((F.take (k + 1)).deep : Nat) : Int) ∧ 0 ≤ mx ∧ mx ≤ 1000000001 from by have := hS.out; omega)
        have hgb := hSn.out.2.2
        have hgb0 := hSn.out.2.1
        clear hT1 hL1 hL2 hB2 B1 hB cS hS
        go_wp2_with fail
        all_goals
          go_roundw
          case rel => exact ⟨k + 1, _, by omega, by go_num, rfl, by omega, by omega, Lib.hid (by have := hSn.out.1; omega), B2⟩
          case measure => simp [RowKit.intOf]; omega
      · have hEk := Lib.hid (hE.out k (by omega))
        have x5 := (X0.out.keep hB.out).2.2.2.2.2.2
        have e2 : IntKind.i64.wrap (s + 1) = s + 1 := IntWalk.i64_in _ (by omega)
        go_wp2_with fail
        go_ret
        exact ⟨ret_i (by have h1 := hEk.out; have h2 := hS.out; omega), B0.out.trans (hB.out.mono B0.out.size)⟩
end Go.Proofs.YtjmipikahaoblaaGreatDoor.Syn
namespace Go.Proofs.YtjmipikahaoblaaGreatDoor.Syn
open Go.RowKit Go.Lib Go.Proofs.YtjmipikahaoblaaGreatDoor.Bas Go.Proofs.YtjmipikahaoblaaGreatDoor.Cal Go.Proofs.YtjmipikahaoblaaGreatDoor.Lx Go.Proofs.YtjmipikahaoblaaGreatDoor.Sc
set_option linter.unusedVariables false

/-- The row with more names. -/
def NmsOut (B : Nat) (v : Value) (L : List (List UInt8)) (w : World) (e : Ending) (w' : World) : Prop := ∃ u, e = .returned u ∧ SRow B w' u L ∧ Own v w u w'
theorem nmsF_len (F : Fo) : (nmsF F).length ≤ F.sizes := by
  induction F with
  | nil => exact Nat.le_refl _
  | cons d k r h1 h2 =>
    rw [nmsF, Fo.sizes, List.length_append, List.length_append]
    split
    · rw [List.length_singleton]; omega
    · rw [List.length_nil]; omega
theorem XAt.own {W W' : World} {b : Nat} {d : Nd} {u a v x : Value} (h : XAt W b d u a) (hO : Own v W x W') (hb : v.ownBlock ≠ some b) : XAt W' b d u a := h.block (hO.g.block b h.1 (fun e => hb e.symm)) hO.size
set_option maxRecDepth 8000 in
set_option maxHeartbeats 8000000 in
theorem pnames_any : ∀ (n : Nat) (e : Ex) (x : Value) (w : World) (B : Nat) (v : Value) (N : List (List UInt8)), e.size ≤ n → n ≤ 1000000 → ExS (fun b => b < B) w x e → SRow B w v N → N.length + e.size ≤ 1000000 → B ≤ w.heap.size → Calls Tryz.prog 43 #[v, x] w (NmsOut B v (N ++ nmsE e) w) := by
  intro n
  induction n with
  | zero => intro e x w B v N h; have := size_pos e; omega
  | succ n ih =>
    intro e x w B v N hsz hn9 h hR hlen hB
    obtain ⟨u, a, rfl, hu, hF⟩ := h
    have al := alloc_at w (xo e.d u a)
    have O0 := Lib.hid (Own.of_below v al)
    have R0 := Lib.hid (hR.keep al)
    have hvb := Lib.hid (fun (g : Nat) (hg : v.ownBlock = some g) => hR.block g hg)
    have X0 := Lib.hid (XAt.new w e.d u a)
    have F0 := Lib.hid (fun (W : World) (y : Value) (hO : Own v w y W) => hF.frame (T := fun b => b < B) fun b hb hl => ⟨hb, (hO.blk (fun g hg => (hR.block g hg).1) hB).block b hb⟩)
    have hT := Lib.hid (fun k (hk : k < e.kids.len) => Fo.take_app e.kids k hk)
    have hG := Lib.hid (show ∀ k, k < e.kids.len → (e.kids.get k).size ≤ n from fun k hk => by have := Fo.size_get_le e.kids k hk; unfold Ex.size at hsz; omega)
    have hL := Lib.hid (show ∀ k, k < e.kids.len → N.length + 1 + (nmsF (e.kids.take k)).length + (e.kids.get k).size ≤ 1000000 from fun k hk => by
      have h1 := nmsF_len (e.kids.take k)
      have h2 := Fo.sizes_take_succ e.kids k hk
      have h3 := Fo.sizes_take_le e.kids (k + 1)
      unfold Ex.size at hlen h2 ⊢
      omega)
    have hE := Lib.hid (show ∀ k, k = e.kids.len → nmsF (e.kids.take k) = nmsF e.kids from fun k hk => by rw [hk, Fo.take_len])
    have hN1 : N.length ≤ 1000000 := by omega
    have hlenk : e.kids.len ≤ 1000000 := by have := Fo.len_le_sizes e.kids; unfold Ex.size at hsz; omega
    have hz0 : nmsF (e.kids.take 0) = [] := rfl
    have hb0v : v.ownBlock ≠ some w.heap.size := fun e => by have := (hR.block _ e).2; omega
    obtain ⟨hd, hhd⟩ : ∃ l, (if e.d.op = 3 then [e.d.nm] else []) = l := ⟨_, rfl⟩
    have hnE : nmsE e = hd ++ nmsF e.kids := by unfold nmsE; rw [hhd]
    have hy := Lib.hid (show e.d.op = 3 → hd = [e.d.nm] from fun h => by rw [← hhd, if_pos h])
    have hno := Lib.hid (show e.d.op ≠ 3 → hd = [] from fun h => by rw [← hhd, if_neg h])
    have hdl := Lib.hid (show hd.length ≤ 1 from by rw [← hhd]; split <;> simp)
    rw [hnE]
    obtain ⟨pu, cu, rfl, _, _⟩ := hu
    obtain ⟨p, c, rfl, _, _⟩ := hF
    unfold exV
    clear hhd hnE hR hlen al
    obtain ⟨F, hFe⟩ : ∃ F, e.kids = F := ⟨_, rfl⟩
    rw [hFe] at O0 R0 X0 F0 hT hG hL hE hlenk hz0 ⊢
    clear hsz hFe
    generalize e.d = d at *
    generalize d.ws.length = nw at *
    obtain ⟨m, hm⟩ : ∃ m, F.len = m := ⟨_, rfl⟩
    have hm' := Lib.hid hm
    rw [hm] at O0 R0 X0 F0 hT hG hL hE hlenk ⊢
    clear hm
    have hfin := Lib.hid (fun (y : Value) (W : World) (hS : SRow B W y ((N ++ hd) ++ nmsF F)) (hO : Own v w y W) => (show NmsOut B v (N ++ (hd ++ nmsF F)) w (.returned y) W from ⟨y, rfl, by rw [← List.append_assoc]; exact hS, hO⟩))
    go_enter Tryz.func43, Tryz.ntmps43
    go_upto_region 1 with fail
    obtain ⟨b0, hb0⟩ : ∃ b, w.heap.size = b := ⟨_, rfl⟩
    have hBb : B ≤ b0 := by omega
    rw [hb0] at X0 hb0v ⊢
    clear hb0
    generalize w.alloc (xo d (.slice pu nw cu) (.slice p m c)) = W0 at *
    have hBW : B ≤ W0.heap.size := by have := X0.out.1; omega
    obtain ⟨_, y0, y1, y2, y3, y4, y5⟩ := X0.out
    go_upto_if 9 with (fail)
    go_cut [0] (fun x0 wx => Hid (SRow B wx x0 (N ++ hd)) ∧ Hid (Own v w x0 wx) ∧ Hid (XAt wx b0 d (.slice pu nw cu) (.slice p m c)))
    case first =>
      by_cases h3 : d.op = 3
      · have t3 : (d.op == 3) = true := by simp [h3]
        have hh := Lib.hid (hy.out h3)
        clear h3
        go_wp2_with (at_builtin; refine wpList_app_str (w := W0) rfl (.tmp 10) (.tmp 13) rfl B v N rfl R0.out d.nm rfl (by omega) hBW ?_; intro v1 w1 hR1 hO1; refine Hid.out ?_)
        refine Lib.hid ?_
        have R1 := Lib.hid hR1
        have O1 := Lib.hid (O0.out.trans hO1)
        have X1 := Lib.hid (X0.out.own hO1 hb0v)
        rw [← hh.out] at R1
        clear hR1 hO1 y0 y1 y2 y3 y4 y5
        go_wp2_with fail
        go_meet
        case rel => exact ⟨R1, O1, X1⟩
      · have t3 : (d.op == 3) = false := by simp [h3]
        have hh := hno.out h3
        have R1 := Lib.hid (show SRow B W0 v (N ++ hd) from by rw [hh, List.append_nil]; exact R0.out)
        clear h3 hh
        go_wp2_with fail
        go_meet
        case rel => exact ⟨R1, O0, X0⟩
    case rest =>
      clear y0 y1 y2 y3 y4 y5
      obtain ⟨hR1, hO1, hX1⟩ := hcut
      obtain ⟨_, y0, y1, y2, y3, y4, y5⟩ := hX1.out
      clear R0 O0 X0 hy hno
      go_wp2_with fail
      go_loopw [0, 18] (fun x0 x9 wr => ∃ (k : Nat), k ≤ m ∧ x9 = .int .i64 k ∧ Hid (SRow B wr x0 ((N ++ hd) ++ nmsF (F.take k))) ∧ Hid (Own v w x0 wr)) (fun _ x9 _ => m - (RowKit.intOf x9).toNat)
      case atStart => exact ⟨0, Nat.zero_le _, rfl, Lib.hid (by rw [hz0, List.append_nil]; exact hR1.out), hO1⟩
      case round =>
        obtain ⟨k, hk, rfl, hS, hO⟩ := hrel
        by_cases hlt : k < m
        · obtain ⟨b, o, c', hv, _, hbl, ue, ae, y0, y1, y2, y3, y4, y5, z1, z2⟩ := (F0.out _ _ hO.out).elem k (by rw [hm'.out]; exact hlt)
          obtain ⟨rfl, hmm, rfl⟩ := Value.slice.inj hv
          clear hmm
          have hk64 : IntKind.i64.wrap ((k : Int) + 1) = (k : Int) + 1 := IntWalk.i64_in _ (by omega)
          have hx := Lib.hid (show ExS (fun b => b < B) wr (exV (F.get k).d ue ae) (F.get k) from ⟨ue, ae, rfl, z1, z2⟩)
          have hgn := hG.out k hlt
          have hT1 := Lib.hid (hT.out k hlt)
          have hL1 := hL.out k hlt
          have hdl1 := hdl.out
          obtain ⟨q1, k1, rfl, _, _⟩ := z1
          obtain ⟨q2, k2, rfl, _, _⟩ := z2
          clear hv
          have hal := alloc_at wr (xo (F.get k).d (.slice q1 (F.get k).d.ws.length k1) (.slice q2 (F.get k).kids.len k2))
          have K1 := XAt.new wr (F.get k).d (.slice q1 (F.get k).d.ws.length k1) (.slice q2 (F.get k).kids.len k2)
          have O1 := Lib.hid (hO.out.below hal)
          have R1 := Lib.hid (hS.out.keep hal)
          have hBw : B ≤ wr.heap.size := by have := hO.out.size; omega
          have cS := Lib.hid (ih (F.get k) _ _ B _ _ hgn (by omega) (hx.out.below hal) R1.out (by rw [List.length_append, List.length_append]; omega) (by have := hal.size; omega))
          go_upto_region 6 with fail
          clear y0 y1 y2 y3 y4 y5 hal hL1
          obtain ⟨b5, hb5⟩ : ∃ b, wr.heap.size = b := ⟨_, rfl⟩
          rw [hb5] at K1 ⊢
          clear hb5 hBw
          generalize wr.alloc (xo (F.get k).d (.slice q1 (F.get k).d.ws.length k1) (.slice q2 (F.get k).kids.len k2)) = W1 at *
          obtain ⟨_, g0, g1, g2, g3, g4, g5⟩ := K1
          unfold exV at cS
          clear hgn
          go_wp2_with fail
          refine cS.out.mono ?_; rintro e w' ⟨u2, rfl, hR2, hO2⟩
          have O2 := Lib.hid (O1.out.trans hO2)
          have R2 := Lib.hid (show SRow B w' u2 ((N ++ hd) ++ nmsF (F.take (k + 1))) from by rw [hT1.out, ← List.append_assoc]; exact hR2)
          clear hR2 hO2 cS O1 R1 hS hO hT1 g0 g1 g2 g3 g4 g5
          go_wp2_with fail
          go_roundw
          case rel => exact ⟨k + 1, by omega, by go_num, R2, O2⟩
          case measure => simp [RowKit.intOf]; omega
        · have hEk := Lib.hid (hE.out k (by omega))
          have hf := Lib.hid (hfin.out _ _ (by rw [← hEk.out]; exact hS.out) hO.out)
          go_wp2_with fail
          go_ret
          exact hf.out
end Go.Proofs.YtjmipikahaoblaaGreatDoor.Syn
namespace Go.Proofs.YtjmipikahaoblaaGreatDoor.Syn
open Go.RowKit Go.Lib Go.Proofs.YtjmipikahaoblaaGreatDoor.Bas Go.Proofs.YtjmipikahaoblaaGreatDoor.Cal Go.Proofs.YtjmipikahaoblaaGreatDoor.Lx Go.Proofs.YtjmipikahaoblaaGreatDoor.Sc
set_option linter.unusedVariables false

theorem putL_none (l : List (List UInt8)) (s : List UInt8) (h : ∀ x ∈ l, ¬ s ≤ x) : putL l s = l ++ [s] := by
  induction l with
  | nil => rfl
  | cons x r ih =>
    rw [putL, if_neg (h x (by simp)), ih fun y hy => h y (by simp [hy])]
    rfl
theorem putL_hit (l : List (List UInt8)) (s y : List UInt8) (h : ∃ x ∈ l, s ≤ x) : putL (l ++ [y]) s = putL l s ++ [y] := by
  induction l with
  | nil => obtain ⟨x, hx, _⟩ := h; cases hx
  | cons x r ih =>
    rw [List.cons_append, putL, putL]
    by_cases hx : s ≤ x
    · rw [if_pos hx, if_pos hx]
      split <;> rfl
    · rw [if_neg hx, if_neg hx, ih ?_]
      · rfl
      · obtain ⟨z, hz, hs⟩ := h
        rcases List.mem_cons.1 hz with e | e
        · subst e; exact absurd hs hx
        · exact ⟨z, e, hs⟩
theorem putL_new (l : List (List UInt8)) (s y : List UInt8) (h : ∀ x ∈ l, ¬ s ≤ x) (hy : s ≤ y) : putL (l ++ [y]) s = l ++ (if s < y then [s, y] else [y]) := by
  induction l with
  | nil =>
    show putL [y] s = _
    rw [putL, if_pos hy]
    split <;> rfl
  | cons x r ih =>
    rw [List.cons_append, putL, if_neg (h x (by simp)), ih fun z hz => h z (by simp [hz])]
    rfl
theorem put_len (l : List (List UInt8)) (s : List UInt8) : (putL l s).length ≤ l.length + 1 := by
  induction l with
  | nil => exact Nat.le_refl _
  | cons x r ih =>
    rw [putL]
    split
    · split
      · simp
      · simp
    · rw [List.length_cons, List.length_cons]; omega
theorem gather_len (N : List (List UInt8)) : ∀ l, (gatherL l N).length ≤ l.length + N.length := by
  induction N with
  | nil => intro l; exact Nat.le_refl _
  | cons s r ih =>
    intro l
    have h1 := ih (putL l s)
    have h2 := put_len l s
    show (gatherL (putL l s) r).length ≤ _
    rw [List.length_cons]
    omega
/-- How a string stands to another one, as the walk sees it. -/
theorem str_lt (s y : List UInt8) : Op.bytesLess (tx s).toList (tx y).toList = decide (s < y) := by
  rw [Go.Proofs.bytesLess_eq, toList_bl, toList_bl, bl_tx, bl_tx]
theorem str_eq (s y : List UInt8) : ((tx s).toList == (tx y).toList) = decide (s = y) := by
  rw [toList_bl, toList_bl, bl_tx, bl_tx]
  by_cases h : s = y
  · subst h; simp
  · simp [h]
def PutOut (L : List (List UInt8)) (w : World) (e : Ending) (w' : World) : Prop := ∃ u, e = .returned u ∧ SRow w.heap.size w' u L ∧ Below w.heap.size w w'
/-- What has been put behind k strings. -/
def preL (dn : Bool) (L : List (List UInt8)) (s : List UInt8) (k : Nat) : List (List UInt8) := if dn = true then putL (L.take k) s else L.take k
def hitP (dn : Bool) (L : List (List UInt8)) (s : List UInt8) (k : Nat) : Prop := if dn = true then ∃ x ∈ L.take k, s ≤ x else ∀ x ∈ L.take k, ¬ s ≤ x
theorem take_get (L : List (List UInt8)) (k : Nat) (h : k < L.length) : L.take (k + 1) = L.take k ++ [L.getD k []] := by
  rw [List.take_add_one, List.getD_eq_getElem?_getD, List.getElem?_eq_getElem h]; rfl
theorem pre_yes (L : List (List UInt8)) (s : List UInt8) (k : Nat) (h : k < L.length) (hp : hitP true L s k) : preL true L s (k + 1) = preL true L s k ++ [L.getD k []] ∧ hitP true L s (k + 1) := by
  have hp' : ∃ x ∈ L.take k, s ≤ x := hp
  refine ⟨?_, ?_⟩
  · show putL (L.take (k + 1)) s = putL (L.take k) s ++ _
    rw [take_get L k h, putL_hit _ _ _ hp']
  · show ∃ x ∈ L.take (k + 1), s ≤ x
    obtain ⟨x, hx, hs⟩ := hp'
    exact ⟨x, by rw [take_get L k h]; simp [hx], hs⟩
theorem pre_no (L : List (List UInt8)) (s : List UInt8) (k : Nat) (h : k < L.length) (hp : hitP false L s k) (hy : ¬ s ≤ L.getD k []) : preL false L s (k + 1) = preL false L s k ++ [L.getD k []] ∧ hitP false L s (k + 1) := by
  have hp' : ∀ x ∈ L.take k, ¬ s ≤ x := hp
  refine ⟨take_get L k h, fun x hx => ?_⟩
  rw [take_get L k h] at hx
  rcases List.mem_append.1 hx with e | e
  · exact hp' x e
  · obtain rfl := List.mem_singleton.1 e; exact hy
theorem pre_new (L : List (List UInt8)) (s : List UInt8) (k : Nat) (h : k < L.length) (hp : hitP false L s k) (hy : s < L.getD k []) : preL true L s (k + 1) = (preL false L s k ++ [s]) ++ [L.getD k []] ∧ hitP true L s (k + 1) := by
  have hp' : ∀ x ∈ L.take k, ¬ s ≤ x := hp
  have hle : s ≤ L.getD k [] := List.le_of_lt hy
  refine ⟨?_, L.getD k [], by rw [take_get L k h]; simp, hle⟩
  show putL (L.take (k + 1)) s = (L.take k ++ _) ++ _
  rw [take_get L k h, putL_new _ _ _ hp' hle, if_pos hy, List.append_assoc]
  rfl
theorem pre_same (L : List (List UInt8)) (s : List UInt8) (k : Nat) (h : k < L.length) (hp : hitP false L s k) (hy : s = L.getD k []) : preL true L s (k + 1) = preL false L s k ++ [L.getD k []] ∧ hitP true L s (k + 1) := by
  have hp' : ∀ x ∈ L.take k, ¬ s ≤ x := hp
  have hle : s ≤ L.getD k [] := by rw [← hy]; exact List.le_refl _
  refine ⟨?_, L.getD k [], by rw [take_get L k h]; simp, hle⟩
  show putL (L.take (k + 1)) s = L.take k ++ _
  rw [take_get L k h, putL_new _ _ _ hp' hle, if_neg (by rw [← hy]; exact List.lt_irrefl _)]
set_option maxRecDepth 8000 in
set_option maxHeartbeats 8000000 in
theorem rput_any (l : Value) (L : List (List UInt8)) (s : List UInt8) (w : World) (h : StrsAt w l L) (hL : L.length ≤ 1000000) : Calls Tryz.prog 62 #[l, .string (tx s)] w (PutOut (putL L s) w) := by
  obtain ⟨p, c, rfl, _, hp⟩ := h
  have hp' := Lib.hid hp
  have hyes := Lib.hid (fun k (hk : k < L.length) => pre_yes L s k hk)
  have hno := Lib.hid (fun k (hk : k < L.length) => pre_no L s k hk)
  have hnew := Lib.hid (fun k (hk : k < L.length) => pre_new L s k hk)
  have hsame := Lib.hid (fun k (hk : k < L.length) => pre_same L s k hk)
  have hlenp := Lib.hid (show ∀ (dn : Bool) k, (preL dn L s k).length ≤ L.length + 1 from fun dn k => by
    unfold preL
    split
    · have := put_len (L.take k) s; rw [List.length_take] at this; omega
    · rw [List.length_take]; omega)
  have hend1 := Lib.hid (show ∀ k, k = L.length → preL true L s k = putL L s from fun k hk => by rw [hk]; show putL (L.take L.length) s = _; rw [List.take_length])
  have hend2 := Lib.hid (show ∀ k, k = L.length → hitP false L s k → preL false L s k ++ [s] = putL L s from fun k hk hh => by
    have hh' : ∀ x ∈ L.take k, ¬ s ≤ x := hh
    rw [hk, List.take_length] at hh'
    rw [hk, putL_none L s hh']
    show L.take L.length ++ [s] = _
    rw [List.take_length])
  have hst : hitP false L s 0 := fun x hx => by cases hx
  have hst0 : preL false L s 0 = [] := rfl
  have hfin := Lib.hid (fun (y : Value) (W : World) (hS : SRow w.heap.size W y (putL L s)) (hB : Below w.heap.size w W) => (show PutOut (putL L s) w (.returned y) W from ⟨y, rfl, hS, hB⟩))
  obtain ⟨n, hn⟩ : ∃ n, L.length = n := ⟨_, rfl⟩
  have hn' := Lib.hid hn
  rw [hn] at hL hyes hno hnew hsame hlenp hend1 hend2 ⊢
  clear hn hp
  have q1 := Lib.hid (fun y => str_lt s y)
  have q2 := Lib.hid (fun y => str_eq s y)
  go_enter Tryz.func62, Tryz.ntmps62
  go_wp2_with fail
  go_loopw [5, 6, 7] (fun x5 x6 x7 wr => ∃ (k : Nat) (dn : Bool), k ≤ n ∧ x6 = .bool dn ∧ x7 = .int .i64 k ∧ Hid (SRow w.heap.size wr x5 (preL dn L s k)) ∧ Hid (hitP dn L s k) ∧ Hid (Below w.heap.size w wr)) (fun _ _ x7 _ => n - (RowKit.intOf x7).toNat)
  case atStart => exact ⟨0, false, Nat.zero_le _, rfl, rfl, Lib.hid (by rw [hst0]; exact srow_nil _ _), Lib.hid hst, Lib.hid (Below.refl _ _)⟩
  case round =>
    obtain ⟨k, dn, hk, rfl, rfl, hS, hH, hB⟩ := hrel
    have hBw : w.heap.size ≤ wr.heap.size := hB.out.size
    have hlp := hlenp.out dn k
    by_cases hlt : k < n
    · obtain ⟨b, off, rfl, hc⟩ := hp'.out (by rw [hn'.out]; omega)
      have hck : wr.cell? ⟨b, off + k, none⟩ = some (.string (tx (L.getD k []))) := (hB.out.cell (p := ⟨b, off + k, none⟩) (World.block_lt_of_cell? _ _ (hc k (by rw [hn'.out]; exact hlt)))).trans (hc k (by rw [hn'.out]; exact hlt))
      have hk64 : IntKind.i64.wrap ((k : Int) + 1) = (k : Int) + 1 := IntWalk.i64_in _ (by omega)
      have p1 := q1.out (L.getD k [])
      have p2 := q2.out (L.getD k [])
      have hcw := Lib.hid (fun W (hW : Below w.heap.size w W) => (hW.cell (p := ⟨b, off + k, none⟩) (World.block_lt_of_cell? _ _ (hc k (by rw [hn'.out]; exact hlt)))).trans (hc k (by rw [hn'.out]; exact hlt)))
      have A1 := Lib.hid (hyes.out k hlt)
      have A2 := Lib.hid (hno.out k hlt)
      have A3 := Lib.hid (hnew.out k hlt)
      have A4 := Lib.hid (hsame.out k hlt)
      clear hc
      generalize L.getD k [] = y at *
      cases dn with
      | true =>
        obtain ⟨e1, e2⟩ := A1.out hH.out
        clear p1 p2
        go_wp2_with (at_builtin; refine wpList_app_str (w := wr) rfl (.tmp 34) (.tmp 39) rfl w.heap.size u5 (preL true L s k) rfl hS.out y rfl (by omega) hBw ?_; intro v1 w1 hR1 hO1; refine Hid.out ?_)
        refine Lib.hid ?_
        rw [← e1] at hR1
        have R1 := Lib.hid hR1
        have H1 := Lib.hid e2
        have B1 := Lib.hid (hB.out.trans (hO1.blk (fun g hg => (hS.out.block g hg).1) hBw))
        clear hR1 hO1 e1 e2
        go_wp2_with fail
        go_roundw
        case rel => exact ⟨k + 1, true, by omega, rfl, by go_num, R1, H1, B1⟩
        case measure => simp [RowKit.intOf]; omega
      | false =>
        by_cases c1 : s < y
        · rw [decide_eq_true c1] at p1
          obtain ⟨e1, e2⟩ := A3.out hH.out c1
          rw [decide_eq_false (fun e => absurd c1 (by rw [← e]; exact List.lt_irrefl _))] at p2
          clear c1
          go_wp2_with (at_builtin; refine wpList_app_str (w := wr) rfl (.tmp 30) (.tmp 32) rfl w.heap.size u5 (preL false L s k) rfl hS.out s rfl (by omega) hBw ?_; intro v1 w1 hR1 hO1; refine Hid.out ?_)
          refine Lib.hid ?_
          have B1 := Lib.hid (hB.out.trans (hO1.blk (fun g hg => (hS.out.block g hg).1) hBw))
          have hBw1 : w.heap.size ≤ w1.heap.size := B1.out.size
          have hck3 := hcw.out w1 B1.out
          have R1 := Lib.hid hR1
          have hl2 : (preL false L s k ++ [s]).length ≤ 1000002 := by rw [List.length_append, List.length_singleton]; omega
          clear hR1 hO1 hck p1 p2
          go_wp2_with (at_builtin; refine wpList_app_str (w := w1) rfl (.tmp 34) (.tmp 39) rfl w.heap.size v1 (preL false L s k ++ [s]) rfl R1.out y rfl (by omega) hBw1 ?_; intro v2 w2 hR2 hO2; refine Hid.out ?_)
          refine Lib.hid ?_
          rw [← e1] at hR2
          have R2 := Lib.hid hR2
          have H2 := Lib.hid e2
          have B2 := Lib.hid (B1.out.trans (hO2.blk (fun g hg => (R1.out.block g hg).1) hBw1))
          clear hR2 hO2 e1 e2 hck3
          go_wp2_with fail
          go_roundw
          case rel => exact ⟨k + 1, true, by omega, rfl, by go_num, R2, H2, B2⟩
          case measure => simp [RowKit.intOf]; omega
        · rw [decide_eq_false c1] at p1
          by_cases c2 : s = y
          · rw [decide_eq_true c2] at p2
            obtain ⟨e1, e2⟩ := A4.out hH.out c2
            clear c1 c2
            go_wp2_with (at_builtin; refine wpList_app_str (w := wr) rfl (.tmp 34) (.tmp 39) rfl w.heap.size u5 (preL false L s k) rfl hS.out y rfl (by omega) hBw ?_; intro v1 w1 hR1 hO1; refine Hid.out ?_)
            refine Lib.hid ?_
            rw [← e1] at hR1
            have R1 := Lib.hid hR1
            have H1 := Lib.hid e2
            have B1 := Lib.hid (hB.out.trans (hO1.blk (fun g hg => (hS.out.block g hg).1) hBw))
            clear hR1 hO1 e1 e2 p1 p2
            go_wp2_with fail
            go_roundw
            case rel => exact ⟨k + 1, true, by omega, rfl, by go_num, R1, H1, B1⟩
            case measure => simp [RowKit.intOf]; omega
          · rw [decide_eq_false c2] at p2
            obtain ⟨e1, e2⟩ := A2.out hH.out (fun h => (List.le_iff_lt_or_eq.1 h).elim c1 c2)
            clear c1 c2
            go_wp2_with (at_builtin; refine wpList_app_str (w := wr) rfl (.tmp 34) (.tmp 39) rfl w.heap.size u5 (preL false L s k) rfl hS.out y rfl (by omega) hBw ?_; intro v1 w1 hR1 hO1; refine Hid.out ?_)
            refine Lib.hid ?_
            rw [← e1] at hR1
            have R1 := Lib.hid hR1
            have H1 := Lib.hid e2
            have B1 := Lib.hid (hB.out.trans (hO1.blk (fun g hg => (hS.out.block g hg).1) hBw))
            clear hR1 hO1 e1 e2 p1 p2
            go_wp2_with fail
            go_roundw
            case rel => exact ⟨k + 1, false, by omega, rfl, by go_num, R1, H1, B1⟩
            case measure => simp [RowKit.intOf]; omega
    · have hkn : k = n := by omega
      cases dn with
      | true =>
        have hf := Lib.hid (hfin.out _ _ (by rw [← hend1.out k hkn]; exact hS.out) hB.out)
        clear hkn
        go_wp2_with fail
        go_ret
        exact hf.out
      | false =>
        have he := Lib.hid (hend2.out k hkn hH.out)
        clear hkn
        go_wp2_with (at_builtin; refine wpList_app_str (w := wr) rfl (.tmp 43) (.tmp 45) rfl w.heap.size u5 (preL false L s k) rfl hS.out s rfl (by omega) hBw ?_; intro v1 w1 hR1 hO1; refine Hid.out ?_)
        refine Lib.hid ?_
        rw [he.out] at hR1
        have hf := Lib.hid (hfin.out _ _ hR1 (hB.out.trans (hO1.blk (fun g hg => (hS.out.block g hg).1) hBw)))
        clear hR1 hO1
        go_wp2_with fail
        go_ret
        exact hf.out
def GatOut (L : List (List UInt8)) (w : World) (e : Ending) (w' : World) : Prop := ∃ u, e = .returned u ∧ StrsAt w' u L ∧ Below w.heap.size w w'
set_option maxRecDepth 8000 in
set_option maxHeartbeats 8000000 in
theorem rgather_any : ∀ (n : Nat) (e : Ex) (x : Value) (w : World) (v : Value) (N : List (List UInt8)), e.size ≤ n → n ≤ 500000 → ExAt w x e → StrsAt w v N → N.length + e.size ≤ 500000 → Calls Tryz.prog 46 #[v, x] w (GatOut (gatherL N (nmsE e)) w) := by
  intro n
  induction n with
  | zero => intro e x w v N h; have := size_pos e; omega
  | succ n ih =>
    intro e x w v N hsz hn9 h hR hlen
    obtain ⟨u, a, rfl, hu, hF⟩ := h
    have al := alloc_at w (xo e.d u a)
    have B0 := Lib.hid al
    have R0 := Lib.hid (hR.below al)
    have X0 := Lib.hid (XAt.new w e.d u a)
    have F0 := Lib.hid (hF.below al)
    have hT := Lib.hid (fun k (hk : k < e.kids.len) => Fo.take_app e.kids k hk)
    have hG := Lib.hid (show ∀ k, k < e.kids.len → (e.kids.get k).size ≤ n from fun k hk => by have := Fo.size_get_le e.kids k hk; unfold Ex.size at hsz; omega)
    obtain ⟨hd, hhd⟩ : ∃ l, (if e.d.op = 3 then [e.d.nm] else []) = l := ⟨_, rfl⟩
    have hnE : nmsE e = hd ++ nmsF e.kids := by unfold nmsE; rw [hhd]
    have hdl : hd.length ≤ 1 := by rw [← hhd]; split <;> simp
    have hL := Lib.hid (show ∀ k, k < e.kids.len → (gatherL N (hd ++ nmsF (e.kids.take k))).length + (e.kids.get k).size ≤ 500000 from fun k hk => by
      have h0 := gather_len (hd ++ nmsF (e.kids.take k)) N
      have h1 := nmsF_len (e.kids.take k)
      have h2 := Fo.sizes_take_succ e.kids k hk
      have h3 := Fo.sizes_take_le e.kids (k + 1)
      rw [List.length_append] at h0
      unfold Ex.size at hlen h2 ⊢
      omega)
    have hE := Lib.hid (show ∀ k, k = e.kids.len → nmsF (e.kids.take k) = nmsF e.kids from fun k hk => by rw [hk, Fo.take_len])
    have hN1 : N.length ≤ 1000000 := by omega
    have hlenk : e.kids.len ≤ 1000000 := by have := Fo.len_le_sizes e.kids; unfold Ex.size at hsz; omega
    have hz0 : nmsF (e.kids.take 0) = [] := rfl
    have hy := Lib.hid (show e.d.op = 3 → hd = [e.d.nm] from fun h => by rw [← hhd, if_pos h])
    have hno := Lib.hid (show e.d.op ≠ 3 → hd = [] from fun h => by rw [← hhd, if_neg h])
    rw [hnE]
    obtain ⟨pu, cu, rfl, _, _⟩ := hu
    obtain ⟨p, c, rfl, _, _⟩ := hF
    unfold exV
    clear hhd hnE hR hlen al hdl
    obtain ⟨F, hFe⟩ : ∃ F, e.kids = F := ⟨_, rfl⟩
    rw [hFe] at B0 R0 X0 F0 hT hG hL hE hlenk hz0 ⊢
    clear hsz hFe
    generalize e.d = d at *
    generalize d.ws.length = nw at *
    obtain ⟨m, hm⟩ : ∃ m, F.len = m := ⟨_, rfl⟩
    have hm' := Lib.hid hm
    rw [hm] at B0 R0 X0 F0 hT hG hL hE hlenk ⊢
    clear hm
    have hfin := Lib.hid (fun (y : Value) (W : World) (hS : StrsAt W y (gatherL N (hd ++ nmsF F))) (hO : Below w.heap.size w W) => (show GatOut (gatherL N (hd ++ nmsF F)) w (.returned y) W from ⟨y, rfl, hS, hO⟩))
    go_enter Tryz.func46, Tryz.ntmps46
    go_upto_region 1 with fail
    obtain ⟨b0, hb0⟩ : ∃ b, w.heap.size = b := ⟨_, rfl⟩
    rw [hb0] at X0 ⊢
    clear hb0
    generalize w.alloc (xo d (.slice pu nw cu) (.slice p m c)) = W0 at *
    obtain ⟨_, y0, y1, y2, y3, y4, y5⟩ := X0.out
    go_upto_if 8 with (fail)
    go_cut [0] (fun x0 wx => Hid (StrsAt wx x0 (gatherL N hd)) ∧ Hid (Below W0.heap.size W0 wx))
    case first =>
      by_cases h3 : d.op = 3
      · have t3 : (d.op == 3) = true := by simp [h3]
        have hh := Lib.hid (hy.out h3)
        have cP := Lib.hid (rput_any v N d.nm W0 R0.out hN1)
        clear h3
        go_wp2_with fail
        refine cP.out.mono ?_; rintro e w1 ⟨v1, rfl, hS, hB⟩
        have R1 := Lib.hid (show StrsAt w1 v1 (gatherL N hd) from by rw [hh.out]; exact hS.at)
        have B1 := Lib.hid hB
        clear hS hB cP
        go_wp2_with fail
        go_meet
        case rel => exact ⟨R1, B1⟩
      · have t3 : (d.op == 3) = false := by simp [h3]
        have R1 := Lib.hid (show StrsAt W0 v (gatherL N hd) from by rw [hno.out h3]; exact R0.out)
        clear h3
        go_wp2_with fail
        go_meet
        case rel => exact ⟨R1, Lib.hid (Below.refl _ _)⟩
    case rest =>
      clear y0 y1 y2 y3 y4 y5
      obtain ⟨hR1, hB1⟩ := hcut
      clear R0 hy hno
      go_wp2_with fail
      go_loopw [0, 5] (fun x0 x9 wr => ∃ (k : Nat), k ≤ m ∧ x9 = .int .i64 k ∧ Hid (StrsAt wr x0 (gatherL N (hd ++ nmsF (F.take k)))) ∧ Hid (Below W0.heap.size W0 wr)) (fun _ x9 _ => m - (RowKit.intOf x9).toNat)
      case atStart => exact ⟨0, Nat.zero_le _, rfl, Lib.hid (by rw [hz0, List.append_nil]; exact hR1.out), hB1⟩
      case round =>
        obtain ⟨k, hk, rfl, hS, hO⟩ := hrel
        have x5 := (X0.out.keep hO.out).2.2.2.2.2.2
        by_cases hlt : k < m
        · obtain ⟨b, o, c', hv, _, hbl, ue, ae, y0, y1, y2, y3, y4, y5, z1, z2⟩ := (F0.out.below hO.out).elem k (by rw [hm'.out]; exact hlt)
          obtain ⟨rfl, hmm, rfl⟩ := Value.slice.inj hv
          clear hmm
          have hk64 : IntKind.i64.wrap ((k : Int) + 1) = (k : Int) + 1 := IntWalk.i64_in _ (by omega)
          have hx := Lib.hid (show ExS Any wr (exV (F.get k).d ue ae) (F.get k) from ⟨ue, ae, rfl, z1, z2⟩)
          have hgn := hG.out k hlt
          have hT1 := Lib.hid (hT.out k hlt)
          have hL1 := hL.out k hlt
          obtain ⟨q1, k1, rfl, _, _⟩ := z1
          obtain ⟨q2, k2, rfl, _, _⟩ := z2
          clear hv
          have cS := Lib.hid (ih (F.get k) _ _ _ _ hgn (by omega) hx.out hS.out hL1)
          unfold exV at cS
          clear hgn hL1
          go_wp2_with fail
          refine cS.out.mono ?_; rintro e w' ⟨u2, rfl, hR2, hO2⟩
          have O2 := Lib.hid (hO.out.trans (hO2.mono hO.out.size))
          have R2 := Lib.hid (show StrsAt w' u2 (gatherL N (hd ++ nmsF (F.take (k + 1)))) from by rw [hT1.out, ← List.append_assoc, gather_app]; exact hR2)
          clear hR2 hO2 cS hS hO hT1
          go_wp2_with fail
          go_roundw
          case rel => exact ⟨k + 1, by omega, by go_num, R2, O2⟩
          case measure => simp [RowKit.intOf]; omega
        · have hEk := Lib.hid (hE.out k (by omega))
          have hf := Lib.hid (hfin.out _ _ (by rw [← hEk.out]; exact hS.out) (B0.out.trans (hO.out.mono B0.out.size)))
          go_wp2_with fail
          go_ret
          exact hf.out
end Go.Proofs.YtjmipikahaoblaaGreatDoor.Syn
namespace Go.Proofs.YtjmipikahaoblaaGreatDoor.Syn
open Go.RowKit Go.Lib Go.Proofs.YtjmipikahaoblaaGreatDoor.Bas Go.Proofs.YtjmipikahaoblaaGreatDoor.Cal Go.Proofs.YtjmipikahaoblaaGreatDoor.Lx Go.Proofs.YtjmipikahaoblaaGreatDoor.Sc
set_option linter.unusedVariables false

theorem words_ext {A B : List (List UInt8)} (h : A.length = B.length) (h2 : ∀ j, j < A.length → A.getD j [] = B.getD j []) : A = B := by
  apply List.ext_getElem h
  intro i h3 h4
  have := h2 i h3
  simpa [List.getD_eq_getElem?_getD, h3, h4] using this
set_option maxHeartbeats 4000000 in
theorem rsamew_any (va vb : Value) (A B : List (List UInt8)) (w : World) (hA : StrsAt w va A) (hB : StrsAt w vb B) (hl : A.length ≤ 9223372036854775807) (hl2 : B.length ≤ 9223372036854775807) :
    Calls Tryz.prog 23 #[va, vb] w (BoolDr2 (decide (A = B)) w) := by
  obtain ⟨p1, c1, rfl, _, hp1⟩ := hA
  obtain ⟨p2, c2, rfl, _, hp2⟩ := hB
  have hN := Lib.hid (show A.length ≠ B.length → decide (A = B) = false from fun h => decide_eq_false (fun e => h (by rw [e])))
  have hM := Lib.hid (show ∀ j, A.getD j [] ≠ B.getD j [] → decide (A = B) = false from fun j h => decide_eq_false (fun e => h (by rw [e])))
  have hY := Lib.hid (show A.length = B.length → (∀ j, j < A.length → A.getD j [] = B.getD j []) → decide (A = B) = true from fun h h2 => decide_eq_true (words_ext h h2))
  obtain ⟨n, hn⟩ : ∃ n, A.length = n := ⟨_, rfl⟩
  obtain ⟨m, hm⟩ : ∃ n, B.length = n := ⟨_, rfl⟩
  rw [hn] at hp1 hl hN hY ⊢
  rw [hm] at hp2 hl2 hN hY ⊢
  have hp1' := Lib.hid hp1
  have hp2' := Lib.hid hp2
  generalize decide (A = B) = R at *
  clear hn hm hp1 hp2
  by_cases hnm : n = m
  · subst hnm
    have hY' := Lib.hid (hY.out rfl)
    clear hN hY
    go_enter Tryz.func23, Tryz.ntmps23
    go_wp2_with fail
    go_loopw [5] (fun i wr => ∃ k : Nat, k ≤ n ∧ i = .int .i64 k ∧ Hid (Dr w wr) ∧ Hid (∀ j, j < k → A.getD j [] = B.getD j [])) (fun i _ => n - (RowKit.intOf i).toNat)
    case atStart => exact ⟨0, Nat.zero_le _, rfl, Lib.hid (Dr.refl w), Lib.hid (fun j hj => absurd hj (Nat.not_lt_zero _))⟩
    case round =>
      obtain ⟨k, hk, rfl, hD, hZ⟩ := hrel
      by_cases hlt : k < n
      · obtain ⟨b1, o1, rfl, hc1⟩ := hp1'.out (by omega)
        obtain ⟨b2, o2, rfl, hc2⟩ := hp2'.out (by omega)
        obtain ⟨nd, hnd⟩ := hD.out
        subst hnd
        have x0 := hc1 k hlt
        have y0 := hc2 k hlt
        have hno := Lib.hid (hM.out k)
        have hye := Lib.hid (fun (h : A.getD k [] = B.getD k []) => (show ∀ j, j < k + 1 → A.getD j [] = B.getD j [] from fun j hj => by
          by_cases e : j = k
          · rw [e]; exact h
          · exact hZ.out j (by omega)))
        have hk64 : IntKind.i64.wrap ((k : Int) + 1) = (k : Int) + 1 := IntWalk.i64_in _ (by omega)
        clear hc1 hc2
        generalize A.getD k [] = x at *
        generalize B.getD k [] = y at *
        by_cases hxy : x = y
        · have hZ2 := Lib.hid (hye.out hxy)
          clear hno hye
          subst hxy
          go_wp2_with fail
          go_quiet (fail)
          go_wp2_with fail
          go_roundw
          case rel => exact ⟨k + 1, by omega, by go_num, Lib.hid (show Dr w _ from by first | exact ⟨_, rfl⟩ | exact Dr.trans ⟨nd, rfl⟩ ⟨_, rfl⟩), hZ2⟩
          case measure => simp [RowKit.intOf]; omega
        · have hE := Lib.hid (hno.out hxy)
          have t1 : ((tx x).toList == (tx y).toList) = false := by rw [tx_test]; exact decide_eq_false hxy
          have hxy' := Lib.hid hxy
          clear hno hye hxy
          go_wp2_with fail
          go_quiet (fail)
          go_wp2_with fail
          go_ret
          exact ⟨ret_b hE.out.symm, by first | exact ⟨_, rfl⟩ | exact Dr.trans ⟨nd, rfl⟩ ⟨_, rfl⟩⟩
      · have hE := Lib.hid (hY'.out (fun j hj => hZ.out j (by omega)))
        go_wp2_with fail
        go_ret
        exact ⟨ret_b hE.out.symm, hD.out⟩
  · have hE := Lib.hid (hN.out hnm)
    have t1 : ((n : Int) == (m : Int)) = false := by simp; omega
    have t2 : (n == m) = false := by simpa using hnm
    clear hN hM hY
    go_enter Tryz.func23, Tryz.ntmps23
    go_wp2_with fail
    go_ret
    exact ⟨ret_b hE.out.symm, Dr.refl w⟩
end Go.Proofs.YtjmipikahaoblaaGreatDoor.Syn
