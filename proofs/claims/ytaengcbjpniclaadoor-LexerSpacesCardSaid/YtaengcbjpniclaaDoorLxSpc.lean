/- Tokens with blanks, line feeds and comments between them (mathematics). -/
import Derived.Test.YtaengcbjpniclaaDoorLxBack
namespace Go.Proofs.YtaengcbjpniclaaDoor.Lx
open Go.RowKit Go.Lib Go.Proofs.YtaengcbjpniclaaDoor.Bas Go.Proofs.YtaengcbjpniclaaDoor.Cal
set_option linter.unusedVariables false

/-- What stands between tokens. -/
def Fill (p : List UInt8) : Prop := p.length ≤ 11 ∧ (∀ r, Sep (p ++ r)) ∧ ∀ r at' acc, scanL (p ++ r) at' acc = scanL r (at' + p.length) acc
theorem fill_1 : Fill [32] := ⟨by decide, fun r => .inr ⟨32, r, rfl, .inl rfl⟩, fun r a acc => scan_sp 32 (by decide) r a acc⟩
theorem fill_2 : Fill [10] := ⟨by decide, fun r => .inr ⟨10, r, rfl, .inr (.inl rfl)⟩, fun r a acc => scan_sp 10 (by decide) r a acc⟩
theorem fill_3 : Fill [32, 32, 32] := ⟨by decide, fun r => .inr ⟨32, _, rfl, .inl rfl⟩, fun r a acc => by
  show scanL (32 :: 32 :: 32 :: r) a acc = _
  rw [scan_sp 32 (by decide), scan_sp 32 (by decide), scan_sp 32 (by decide)]; rfl⟩
theorem fill_5 : Fill [10, 10, 32] := ⟨by decide, fun r => .inr ⟨10, _, rfl, .inr (.inl rfl)⟩, fun r a acc => by
  show scanL (10 :: 10 :: 32 :: r) a acc = _
  rw [scan_sp 10 (by decide), scan_sp 10 (by decide), scan_sp 32 (by decide)]; rfl⟩
/-- A comment is passed over. -/
theorem scan_note (m r : List UInt8) (at' : Nat) (acc : List Tk) (hm : ∀ c ∈ m, inC c = true) (hr : r = [] ∨ inC (r.getD 0 0) = false) : scanL (35 :: m ++ r) at' acc = scanL r (at' + (35 :: m).length) acc := by
  have hs : spn inC (35 :: m ++ r) = (35 :: m).length := spn_append inC (35 :: m) r (fun c hc => by
    rcases List.mem_cons.1 hc with rfl | hc
    · rfl
    · exact hm c hc) hr
  rw [scanL_step _ _ _ (by simp), show (35 :: m ++ r).getD 0 0 = 35 from rfl, if_neg (by decide), if_pos (by decide), hs, drop_app]
theorem fill_4 : Fill [32, 35, 32, 97, 32, 40, 32, 48, 48, 55, 10] := ⟨by decide, fun r => .inr ⟨32, _, rfl, .inl rfl⟩, fun r a acc => by
  show scanL (32 :: (35 :: [32, 97, 32, 40, 32, 48, 48, 55] ++ 10 :: r)) a acc = _
  rw [scan_sp 32 (by decide), scan_note _ _ _ _ (by decide) (.inr rfl), scan_sp 10 (by decide)]; rfl⟩
/-- The text so far has the tokens so far. -/
def SoFar (s : List UInt8) (L : List Tk) : Prop := ∀ tail, Sep tail → ∃ M, Same M L ∧ scanL (s ++ tail) 0 [] = scanL tail s.length M
theorem soFar_nil : SoFar [] [] := fun tail _ => ⟨[], rfl, rfl⟩
theorem same_snoc {M L : List Tk} (h : Same M L) (t x : Tk) (hx : x.k = t.k ∧ x.t = t.t ∧ x.n = t.n) : Same (M ++ [x]) (L ++ [t]) := by
  unfold Same at *
  rw [List.map_append, List.map_append, h]
  simp [hx]
theorem soFar_step (s p : List UInt8) (L : List Tk) (t : Tk) (h : SoFar s L) (hp : Fill p) (ht : wrE t = 0) (hl : L.length < 4000) : SoFar (s ++ p ++ wr t) (L ++ [t]) := by
  intro tail hs
  obtain ⟨M, hM, he⟩ := h (p ++ (wr t ++ tail)) (hp.2.1 _)
  refine ⟨M ++ [⟨t.k, t.t, t.n, ((s.length + p.length : Nat) : Int)⟩], same_snoc hM _ _ ⟨rfl, rfl, rfl⟩, ?_⟩
  have hlen : M.length = L.length := by have := congrArg List.length hM; simpa using this
  rw [List.append_assoc, List.append_assoc, he, hp.2.2, scan_wr t tail _ M ht (.inr hs) (by omega), List.length_append, List.length_append, Nat.add_assoc]
theorem soFar_end (s : List UInt8) (L : List Tk) (h : SoFar s L) (hs : s.length ≤ 16000) : ∃ M, Same M L ∧ scanV (s ++ [32, 35, 32, 101, 110, 100]) = (M, 0, 0) := by
  obtain ⟨M, hM, he⟩ := h [32, 35, 32, 101, 110, 100] (.inr ⟨32, _, rfl, .inl rfl⟩)
  refine ⟨M, hM, ?_⟩
  unfold scanV
  rw [if_neg (by simp; omega), he, scan_sp 32 (by decide)]
  have := scan_note [32, 101, 110, 100] [] (s.length + 1) M (by decide) (.inl rfl)
  rw [List.append_nil] at this
  rw [this]
  rfl
/-- Join of one token. -/
theorem join_one (t : Tk) (h : wrE t = 0) : joinV [t] = (wr t, 0) := by
  have h1 := wr_len t h
  have hj : joinT [40] [t] = wr t := by
    show gap [40] (wr t) ++ (wr t ++ []) = wr t
    unfold gap
    rw [if_neg (fun e => e.1 rfl)]
    simp
  unfold joinV
  rw [if_neg (by simp), show joinE [t] = 0 by unfold joinE; rw [if_neg (by simpa using h)]; rfl, if_neg (by simp), hj, if_neg (by omega)]
end Go.Proofs.YtaengcbjpniclaaDoor.Lx
