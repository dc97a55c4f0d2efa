/- The deck of numbers from which arguments are made: New, Next. -/
import Derived.Test.YtdehldcgakdobaaGreatDoorNat
import Derived.Laws.AppendOwn
namespace Go.Proofs.YtdehldcgakdobaaGreatDoor.Dk
open Go.RowKit Go.Lib Go.Proofs.YtdehldcgakdobaaGreatDoor.Bas Go.Proofs.YtdehldcgakdobaaGreatDoor.Spl
set_option linter.unusedVariables false

/-- Nothing of before has changed but block d. -/
structure Kept (d : Nat) (w w' : World) : Prop where
  os : w'.os = w.os
  tape : w'.tape = w.tape
  output : w'.output = w.output
  size : w.heap.size ≤ w'.heap.size
  block : ∀ k, k < w.heap.size → k ≠ d → w'.heap[k]? = w.heap[k]?
theorem Kept.refl (d : Nat) (w : World) : Kept d w w := ⟨rfl, rfl, rfl, Nat.le_refl _, fun _ _ _ => rfl⟩
theorem Kept.trans {d : Nat} {a b c : World} (h : Kept d a b) (k : Kept d b c) : Kept d a c :=
  ⟨k.os.trans h.os, k.tape.trans h.tape, k.output.trans h.output, Nat.le_trans h.size k.size, fun i hi hd => (k.block i (Nat.lt_of_lt_of_le hi h.size) hd).trans (h.block i hi hd)⟩
theorem Kept.drewN {d : Nat} {a w : World} (h : Kept d a w) (n : Nat) : Kept d a (w.drewN n) := ⟨h.os, h.tape, h.output, h.size, h.block⟩
theorem Kept.set {d : Nat} {a w : World} (h : Kept d a w) (o : Nat) (u : Value) : Kept d a (w.setCell ⟨d, o, none⟩ u) :=
  h.trans ⟨rfl, rfl, rfl, by simp [World.setCell], fun k _ hk => Below.heap_setCell _ _ _ _ hk⟩
theorem Kept.below {d B : Nat} {w w' : World} (h : Kept d w w') (hB : B ≤ d) (hs : B ≤ w.heap.size) : Below B w w' :=
  ⟨h.os, h.tape, h.output, h.size, fun k hk => h.block k (by omega) (by omega)⟩
theorem Kept.of_below {d : Nat} {w w' : World} (h : Below w.heap.size w w') : Kept d w w' := ⟨h.os, h.tape, h.output, h.size, fun k hk _ => h.block k hk⟩
theorem Kept.row {t : TypeId} {kd : IntKind} {d B : Nat} {w w' : World} {v : Value} {L : List Int} (h : Row t kd B w v L) (k : Kept d w w') (hd : v.ownBlock ≠ some d) : Row t kd B w' v L := by
  have hlt := World.ownsRow.lt h
  obtain ⟨h1, h2⟩ := h
  refine ⟨h1, ?_⟩
  rcases h2 with h2 | ⟨g, cap, cur, hv, hg, hh, r⟩
  · exact Or.inl h2
  · refine Or.inr ⟨g, cap, cur, hv, hg, ?_, r⟩
    subst hv
    rw [k.block g (hlt g rfl).2 (fun e => hd (by rw [← e]; rfl))]; exact hh

/-- A deck at block d over the slice v, which lies below B and reads as l. -/
structure Deck (B : Nat) (w : World) (d : Nat) (v : Value) (l : List Int) : Prop where
  ge : B ≤ d
  lt : d < w.heap.size
  c0 : w.cell? ⟨d, 0, none⟩ = some v
  c1 : ∃ k : Nat, k ≤ l.length ∧ w.cell? ⟨d, 1, none⟩ = some (.int .i64 k)
  fz : w.frozen? ⟨d, 1, none⟩ = false
  ints : IntsAt w v l
  blk : 0 < l.length → ∀ b, v.ownBlock = some b → b < B
  len : l.length ≤ 9223372036854775807
  wf : ∀ x ∈ l, -9223372036854775808 ≤ x ∧ x ≤ 9223372036854775807

theorem Deck.below {B : Nat} {w w' : World} {d : Nat} {v : Value} {l : List Int} (h : Deck B w d v l) (hb : Below w.heap.size w w') : Deck B w' d v l := by
  obtain ⟨k, hk, hc⟩ := h.c1
  exact ⟨h.ge, Nat.lt_of_lt_of_le h.lt hb.size, by rw [hb.cell (p := ⟨d, 0, none⟩) h.lt]; exact h.c0, ⟨k, hk, by rw [hb.cell (p := ⟨d, 1, none⟩) h.lt]; exact hc⟩, by rw [hb.frozen (p := ⟨d, 1, none⟩) h.lt]; exact h.fz, h.ints.below hb, h.blk, h.len, h.wf⟩
theorem Deck.drewN {B : Nat} {w : World} {d : Nat} {v : Value} {l : List Int} (h : Deck B w d v l) (n : Nat) : Deck B (w.drewN n) d v l := ⟨h.ge, h.lt, h.c0, h.c1, h.fz, h.ints, h.blk, h.len, h.wf⟩
theorem ints_set {w : World} {v : Value} {l : List Int} (h : IntsAt w v l) {B d o : Nat} (hb : 0 < l.length → ∀ b, v.ownBlock = some b → b < B) (hd : B ≤ d) (u : Value) : IntsAt (w.setCell ⟨d, o, none⟩ u) v l := by
  obtain ⟨p, c, rfl, hp⟩ := h
  refine ⟨p, c, rfl, fun h0 => ?_⟩
  obtain ⟨b, off, rfl, hc⟩ := hp h0
  have := hb h0 b rfl
  exact ⟨b, off, rfl, fun j hj => by rw [World.cell?_setCell_other _ _ _ _ (by intro e; simp only [Addr.mk.injEq] at e; omega)]; exact hc j hj⟩
theorem Deck.set {B : Nat} {w : World} {d : Nat} {v : Value} {l : List Int} (h : Deck B w d v l) (k : Nat) (hk : k ≤ l.length) : Deck B (w.setCell ⟨d, 1, none⟩ (.int .i64 k)) d v l := by
  obtain ⟨k0, hk0, hc⟩ := h.c1
  refine ⟨h.ge, by simpa using h.lt, ?_, ⟨k, hk, ?_⟩, ?_, ints_set h.ints h.blk h.ge _, h.blk, h.len, h.wf⟩
  · rw [World.cell?_setCell_other _ _ _ _ (by simp)]; exact h.c0
  · exact World.cell?_setCell_same _ _ _ hc
  · rw [World.frozen?_setCell]; exact h.fz

def New (v : Value) (l : List Int) (w : World) (e : Ending) (w' : World) : Prop := ∃ d, e = .returned (.pointer (some ⟨d, 0, none⟩)) ∧ Deck w.heap.size w' d v l ∧ Below w.heap.size w w'
set_option maxHeartbeats 400000 in
theorem new_any (v : Value) (l : List Int) (w : World) (h : IntsAt w v l) (hl : l.length ≤ 9223372036854775807) (hw : ∀ x ∈ l, -9223372036854775808 ≤ x ∧ x ≤ 9223372036854775807) :
    Calls Tryz.prog 6 #[v] w (New v l w) := by
  have hI := Lib.hid h
  have hb : 0 < l.length → ∀ b, v.ownBlock = some b → b < w.heap.size := fun h0 b e => by
    obtain ⟨p, c, rfl, hp⟩ := h
    obtain ⟨b', off, rfl, hc⟩ := hp h0
    cases e
    exact World.block_lt_of_cell? _ _ (hc 0 h0)
  have hb' := Lib.hid hb
  have hw' := Lib.hid hw
  obtain ⟨p, c, rfl, hp⟩ := h
  clear hp hb hw
  have hfin : New (.slice p l.length c) l w (.returned (.pointer (some ⟨w.heap.size, 0, none⟩))) (w.alloc (.cells #[.slice p l.length c, .int .i64 0] 46)) := by
    refine ⟨w.heap.size, rfl, ?_, (Below.refl _ _).alloc (Nat.le_refl _) _⟩
    have hba : Below w.heap.size w (w.alloc (.cells #[.slice p l.length c, .int .i64 0] 46)) := (Below.refl _ _).alloc (Nat.le_refl _) _
    exact ⟨Nat.le_refl _, by simp, by simp, ⟨0, Nat.zero_le _, by simp⟩, by simp, hI.out.below hba, hb'.out, hl, hw'.out⟩
  have hfin' := Lib.hid hfin
  clear hfin
  go_enter Tryz.func6, Tryz.ntmps6
  go_wp2
  go_ret
  exact hfin'.out

/-- A number below n; the deck has gone on. -/
def NextOut (n B d : Nat) (v : Value) (l : List Int) (w : World) (e : Ending) (w' : World) : Prop := ∃ x : Nat, x < n ∧ e = .returned (.int .i64 x) ∧ Deck B w' d v l ∧ Kept d w w'
theorem wrap_i (x : Int) (h1 : -9223372036854775808 ≤ x) (h2 : x ≤ 9223372036854775807) : IntKind.i64.wrap x = x := Go.IntWalk.i64_in _ ⟨h1, h2⟩
theorem next_val (x n : Int) (h : 0 < n) : ∃ y : Nat, (x.tmod n + n) % n = y ∧ (y : Int) < n := by
  have h3 := Int.emod_nonneg (x.tmod n + n) (show n ≠ 0 by omega)
  have h4 := Int.emod_lt_of_pos (x.tmod n + n) h
  exact ⟨((x.tmod n + n) % n).toNat, by omega, by omega⟩

set_option maxHeartbeats 1000000 in
theorem next_any (B d : Nat) (v : Value) (l : List Int) (w : World) (n : Nat) (hn : 0 < n) (hn2 : n ≤ 35184372088832) (h : Deck B w d v l) :
    Calls Tryz.prog 17 #[.pointer (some ⟨d, 0, none⟩), .int .i64 n] w (NextOut n B d v l w) := by
  have hD := Lib.hid h
  obtain ⟨k, hk, c1⟩ := h.c1
  have c0 := h.c0
  have fz := h.fz
  have hlen := h.len
  obtain ⟨p, c, rfl, hp⟩ := h.ints
  by_cases hlt : k < l.length
  · have hx := hD.out.wf _ (getD_mem hlt)
    obtain ⟨b, off, rfl, hc⟩ := hp (by omega)
    have ck := hc k hlt
    have hbd : b < d := Nat.lt_of_lt_of_le (hD.out.blk (by omega) b rfl) hD.out.ge
    have hset := fun a => (hD.out.drewN a).set (k + 1) (by omega)
    generalize l.getD k 0 = x at *
    have hb1 := Int.lt_tmod_of_pos x (show (0 : Int) < n by omega)
    have hb2 := Int.tmod_lt_of_pos x (show (0 : Int) < n by omega)
    obtain ⟨y, hy1, hy2⟩ := next_val x n (by omega)
    have hfin : ∀ na nq, NextOut n B d (.slice (some ⟨b, off, none⟩) l.length c) l w (.returned (.int .i64 y)) (((w.drewN na).setCell ⟨d, 1, none⟩ (.int .i64 ((k + 1 : Nat) : Int))).drewN nq) := fun na nq => ⟨y, by omega, rfl, (hset na).drewN nq, (((Kept.refl d w).drewN na).set _ _).drewN nq⟩
    have hfin' := Lib.hid hfin
    have hk1 : ((k + 1 : Nat) : Int) = (k : Int) + 1 := by omega
    rw [hk1] at hfin'
    have hx1 := hx.1
    have hx2 := hx.2
    have hy1' := Lib.hid hy1
    have ck' : (w.setCell ⟨d, 1, none⟩ (.int .i64 ((k : Int) + 1))).cell? ⟨b, off + k, none⟩ = some (.int .i64 x) := by rw [World.cell?_setCell_other _ _ _ _ (by intro e; simp only [Addr.mk.injEq] at e; omega)]; exact ck
    clear hfin hp hc hset hx h hy1 hk1
    generalize l.length = m at *
    have t1 : decide ((m : Int) ≤ (k : Int)) = false := by simp; omega
    have t2 : IntKind.i64.wrap ((k : Int) + 1 - 1) = (k : Int) := by rw [wrap_i] <;> omega
    have t3 : (((n : Int) == 0)) = false := by simp; omega
    go_enter Tryz.func17, Tryz.ntmps17
    go_wp2_with fail
    go_quiet (fail)
    go_wp2_with fail
    go_quiet (fail)
    go_wp2_with fail
    go_ret
    show NextOut _ _ _ _ _ _ (.returned (.int .i64 ((x.tmod n + n) % n))) _
    rw [hy1'.out]
    exact hfin'.out _ _
  · obtain rfl : k = l.length := by omega
    have hfin : ∀ nq, NextOut n B d (.slice p l.length c) l w (.returned (.int .i64 0)) (w.drewN nq) := fun nq => ⟨0, hn, rfl, hD.out.drewN nq, (Kept.refl d w).drewN nq⟩
    have hfin' := Lib.hid hfin
    clear hfin hp h hlt hk
    generalize l.length = k at *
    have t1 : decide ((k : Int) ≤ (k : Int)) = true := by simp
    go_enter Tryz.func17, Tryz.ntmps17
    go_wp2_with fail
    go_quiet (fail)
    go_wp2_with fail
    go_ret
    exact hfin'.out _

theorem Kept.grown {d : Nat} {a w w' : World} {row : Option Nat} (h : Kept d a w) (hg : w.grownBy w' row) (hr : ∀ g, row = some g → a.heap.size ≤ g) : Kept d a w' :=
  ⟨hg.os.trans h.os, hg.tape.trans h.tape, hg.output.trans h.output, Nat.le_trans h.size hg.size, fun k hk hd =>
    (hg.block k (Nat.lt_of_lt_of_le hk h.size) (fun e => by have := hr k e.symm; omega)).trans (h.block k hk hd)⟩
theorem Kept.alloc {d : Nat} {a w : World} (h : Kept d a w) (o : Obj) : Kept d a (w.alloc o) :=
  ⟨h.os, h.tape, h.output, by have := h.size; simp; omega, fun k hk hd => by rw [Below.heap_alloc _ _ _ (Nat.lt_of_lt_of_le hk h.size)]; exact h.block k hk hd⟩
theorem Deck.grown {B : Nat} {w w' : World} {d : Nat} {v : Value} {l : List Int} {row : Option Nat} (h : Deck B w d v l) (hg : w.grownBy w' row) (hr : ∀ g, row = some g → d < g) : Deck B w' d v l := by
  obtain ⟨k, hk, hc⟩ := h.c1
  have e : w'.heap[d]? = w.heap[d]? := hg.block d h.lt (fun e => by have := hr d e.symm; omega)
  refine ⟨h.ge, Nat.lt_of_lt_of_le h.lt hg.size, ?_, ⟨k, hk, ?_⟩, ?_, ?_, h.blk, h.len, h.wf⟩
  · rw [World.cell?_of_block (w := w) (a := ⟨d, 0, none⟩) e]; exact h.c0
  · rw [World.cell?_of_block (w := w) (a := ⟨d, 1, none⟩) e]; exact hc
  · rw [World.frozen?_of_block (w := w) (a := ⟨d, 1, none⟩) e]; exact h.fz
  · obtain ⟨p, c, rfl, hp⟩ := h.ints
    refine ⟨p, c, rfl, fun h0 => ?_⟩
    obtain ⟨b, off, rfl, hcc⟩ := hp h0
    refine ⟨b, off, rfl, fun j hj => ?_⟩
    have h1 := h.blk h0 b rfl
    have h2 := h.ge
    exact hg.cell (hcc j hj) (fun e => by have := hr b e.symm; omega)

end Go.Proofs.YtdehldcgakdobaaGreatDoor.Dk
