/- CalendarParse's walk. -/
import Derived.Test.YtlhgjhdeidhibaaDoorCalRParse3
import Derived.Test.YtlhgjhdeidhibaaDoorCalRead
namespace Go.Proofs.YtlhgjhdeidhibaaDoor.Cal
open Go.RowKit Go.Lib Go.Proofs.YtlhgjhdeidhibaaDoor.Bas
set_option linter.unusedVariables false

/-- Bytes at the beginning of block b, which may be written. -/
def BytesAt (W : World) (b : Nat) (l : List UInt8) : Prop := b < W.heap.size ∧ ∀ j (h : j < l.length), W.cell? ⟨b, j, none⟩ = some (.int .u8 (l[j].toNat : Int)) ∧ W.frozen? ⟨b, j, none⟩ = false
theorem BytesAt.keep {w w' : World} {b : Nat} {l : List UInt8} (h : BytesAt w b l) (hb : Below w.heap.size w w') : BytesAt w' b l :=
  ⟨Nat.lt_of_lt_of_le h.1 hb.size, fun j hj => by rw [hb.cell (p := ⟨b, j, none⟩) h.1, hb.frozen (p := ⟨b, j, none⟩) h.1]; exact h.2 j hj⟩
theorem BytesAt.set {w : World} {b : Nat} {l : List UInt8} (h : BytesAt w b l) (k : Nat) (hk : k < l.length) (x : UInt8) : BytesAt (w.setCell ⟨b, k, none⟩ (.int .u8 (x.toNat : Int))) b (l.set k x) := by
  refine ⟨by simpa using h.1, fun j hj => ?_⟩
  have hj2 : j < l.length := by simpa using hj
  refine ⟨?_, by rw [World.frozen?_setCell]; exact (h.2 j hj2).2⟩
  by_cases e : k = j
  · subst e
    rw [World.cell?_setCell_same _ _ _ (h.2 k hk).1]
    simp
  · rw [World.cell?_setCell_other _ _ _ _ (by intro e2; simp only [Addr.mk.injEq] at e2; omega), (h.2 j hj2).1]
    simp [List.getElem_set_ne e]
theorem BytesAt.run {w : World} {b : Nat} {l : List UInt8} (h : BytesAt w b l) (n cap : Nat) (hn : l.length = n) : (convert 38 9 (.slice (some ⟨b, 0, none⟩) n cap)).run Tryd.prog w = .ok (.string (tx l)) w := by
  subst hn
  exact run_convert_bytes_back w 38 9 5 ⟨b, 0, none⟩ cap l Tryd.underlying38 Tryd.underlying5 Tryd.underlying9 (fun j hj => by
    have := (h.2 j hj).1
    cases j with
    | zero => simpa [Addr.add] using this
    | succ j => simpa [Addr.add] using this)
/-- What the bytes of a text are, and the world behind. -/
theorem bytes_run (w : World) (l : List UInt8) : ∃ cap W, (convert 9 38 (.string (tx l))).run Tryd.prog w = .ok (.slice (some ⟨w.heap.size, 0, none⟩) l.length cap) W ∧ BytesAt W w.heap.size l ∧ Below w.heap.size w W := by
  refine ⟨_, _, by rw [run_bytes_of_string w 9 38 5 (tx l) Tryd.underlying9 Tryd.underlying38 Tryd.underlying5, tx_size], ⟨by simp, fun j hj => ⟨?_, ?_⟩⟩, ?_⟩
  · rw [show w.heap.size = w.drew.heap.size from rfl, World.cell?_alloc_mark, bytesRow_at (tx l) _ j (by simpa [tx] using hj)]
    simp [tx]
  · rw [show w.heap.size = w.drew.heap.size from rfl, World.frozen?_alloc_mark]
    have : j < (bytesRow (tx l) (grownCap w l.length 0 5)).size := by
      unfold bytesRow
      simp [tx]
      omega
    simp
    intro h
    omega
  · exact (below_drewN (Below.refl w.heap.size w) 1).alloc (by simp [World.drewN]) _

theorem parse_skip (s : ByteArray) (n at' b : Int) (w : World) (hT : Tab w) (h : 100 < s.size) (hs : s.size ≤ 9223372036854775807) : Calls Tryd.prog 7 #[.string s, .int .i64 n, .int .i64 at', .int .u8 b] w (BoolBe true w) := by
  have c6 := Lib.hid (awake_any w hT)
  have t1 : decide (100 < (s.size : Int)) = true := by simp; omega
  have t2 : decide (100 < s.size) = true := by simp; omega
  go_enter Tryd.func7, Tryd.ntmps7
  go_wp2_with fail
  refine c6.out.mono ?_; rintro e W7 ⟨rfl, hB⟩
  have b7 := Lib.hid hB
  clear hB
  go_wp2_with fail
  go_ret
  exact ⟨rfl, b7.out⟩

set_option maxHeartbeats 4000000 in
theorem parseW (s : ByteArray) (n at' b : Int) (w : World) (hT : Tab w) (h100 : s.size ≤ 100) (n1 : -9223372036854775808 ≤ n) (n2 : n ≤ 9223372036854775807) (a1 : -9223372036854775808 ≤ at') (a2 : at' ≤ 9223372036854775807) (b1 : 0 ≤ b) (b2 : b ≤ 255) :
    Calls Tryd.prog 7 #[.string s, .int .i64 n, .int .i64 at', .int .u8 b] w (BoolBe true w) := by
  have hb := hw_bd n
  have c0 := Lib.hid (fun w => hw_any n w n1 n2)
  have c1 := Lib.hid (fun w hT => parse_any s w hT (by omega))
  have c2 := Lib.hid (fun w => rparse_any s w h100)
  have c3 := Lib.hid (fun w => rformat_any (hw n) w)
  have c6 := Lib.hid awake_any
  rw [show fmtV (hw n) = (fmtT (hw n), 0) by unfold fmtV; rw [if_pos hb]] at c3
  have hz := fmtT_size (hw n)
  obtain ⟨l, hl⟩ : ∃ l, fmtT (hw n) = tx l := ⟨_, rfl⟩
  rw [hl] at c3 hz
  rw [tx_size] at hz
  obtain ⟨L, hL⟩ : ∃ L, l.length = L := ⟨_, rfl⟩
  rw [hL] at hz
  have hwb := wi_bd at' (L : Int) (by omega)
  have cW := Lib.hid (fun w => within_any at' (L : Int) w a1 a2 (by omega) (by omega))
  obtain ⟨j, hj⟩ : ∃ j : Nat, wi at' (L : Int) = j := ⟨(wi at' (L : Int)).toNat, by omega⟩
  rw [hj] at cW hwb
  have hjL : j < L := by omega
  obtain ⟨x, hx⟩ : ∃ x : UInt8, b = (x.toNat : Int) := ⟨UInt8.ofNat b.toNat, by
    have : (UInt8.ofNat b.toNat).toNat = b.toNat % 256 := by simp
    omega⟩
  have hls : (l.set j x).length = L := by simp [hL]
  have hzz := tx_size (l.set j x)
  have c4 := Lib.hid (fun w hT => parse_any (tx (l.set j x)) w hT (by omega))
  have c5 := Lib.hid (fun w => rparse_any (tx (l.set j x)) w (by omega))
  have hbr := Lib.hid (fun w => bytes_run w l)
  have hset := Lib.hid (fun (W : World) q (h : BytesAt W q l) => h.set j (by omega) x)
  have hrun := Lib.hid (fun (W : World) q (h : BytesAt W q (l.set j x)) cap => h.run L cap hls)
  rw [← hx] at hset
  rw [hL] at hbr
  have hlt1 : (j : Int) < (L : Int) := by omega
  have L1 : L ≤ 13 := by omega
  have hLL := Lib.hid hL
  have u1 : decide (100 < (s.size : Int)) = false := by simp; omega
  have u2 : decide (100 < s.size) = false := by simp; omega
  have hcell0 : ∀ (W : World) q, BytesAt W q l → ∃ o : Int, W.cell? ⟨q, j, none⟩ = some (.int .u8 o) ∧ W.frozen? ⟨q, j, none⟩ = false := fun W q h => ⟨_, h.2 j (by omega)⟩
  have hcell := Lib.hid hcell0
  clear hcell0
  clear hl hL hz hwb hj hls hzz hx hb
  generalize parseV s = V at *
  obtain ⟨r1, r2⟩ := V
  generalize parseV (tx (l.set j x)) = V2 at *
  obtain ⟨r3, r4⟩ := V2
  generalize tx (l.set j x) = s3 at *
  have hTT := Lib.hid hT
  clear hT
  go_enter Tryd.func7, Tryd.ntmps7
  go_wp2_with fail
  refine (c1.out _ hTT.out).mono ?_; rintro e W1 ⟨rfl, hB⟩
  have b1 := Lib.hid hB
  clear hB c1
  go_wp2_with fail
  refine (c2.out _).mono ?_; rintro e W2 ⟨rfl, hB⟩
  have b2 := Lib.hid (trans_at b1.out hB)
  clear hB b1 c2
  go_wp2_with fail
  refine (c0.out _).mono ?_; rintro e w' ⟨rfl, rfl⟩
  go_wp2_with fail
  refine (c3.out _).mono ?_; rintro e W3 ⟨rfl, hB⟩
  have b3 := Lib.hid (trans_at b2.out hB)
  clear hB b2 c3
  obtain ⟨cap, W4, hc, hBy, hB⟩ := hbr.out W3
  have b4 := Lib.hid (trans_at b3.out hB)
  have Y4 := Lib.hid hBy
  have hp := Lib.hid b3.out.size
  clear hB hBy b3
  generalize hp3 : W3.heap.size = p3 at *
  clear hp3
  go_upto_region 7 with (fail)
  obtain ⟨o, k1, k2⟩ := hcell.out _ _ Y4.out
  clear hc
  go_wp2_with fail
  refine (cW.out _).mono ?_; rintro e w' ⟨rfl, rfl⟩
  go_upto_region 8 with (fail)
  have Y5 := Lib.hid (hset.out _ _ Y4.out)
  have b5 := Lib.hid (b4.out.setCell (p := ⟨p3, j, none⟩) hp.out (.int .u8 b))
  clear k1 k2 Y4 b4 hbr hset hcell cW
  generalize W4.setCell ⟨p3, j, none⟩ (.int .u8 b) = W5 at b5 Y5 ⊢
  have e5 := hrun.out _ _ Y5.out cap
  go_wp2_with fail
  refine (c4.out _ (hTT.out.keep b5.out)).mono ?_; rintro e W6 ⟨rfl, hB⟩
  have b6 := Lib.hid (trans_at b5.out hB)
  have Y6 := Lib.hid (Y5.out.keep hB)
  clear hB b5 Y5 e5 c4
  have e6 := hrun.out _ _ Y6.out cap
  go_wp2_with fail
  refine (c5.out _).mono ?_; rintro e W7 ⟨rfl, hB⟩
  have b7 := Lib.hid (trans_at b6.out hB)
  clear hB b6 Y6 e6 c5
  go_wp2_with fail
  refine (c6.out _ (hTT.out.keep b7.out)).mono ?_; rintro e W8 ⟨rfl, hB⟩
  have b8 := Lib.hid (trans_at b7.out hB)
  clear hB b7
  go_wp2_with fail
  go_ret
  exact ⟨rfl, b8.out⟩

theorem parse_walk (s : ByteArray) (n at' b : Int) (w : World) (hT : Tab w) (hs : s.size ≤ maxLen) (hn : (Lit.int .i64 n).wf = true) (ha : (Lit.int .i64 at').wf = true) (hb : (Lit.int .u8 b).wf = true) :
    Calls Tryd.prog 7 #[.string s, .int .i64 n, .int .i64 at', .int .u8 b] w (BoolBe true w) := by
  have bn := Go.bounds_i64 hn
  have ba := Go.bounds_i64 ha
  have bb := Go.bounds_u8 hb
  unfold maxLen at hs
  by_cases h : 100 < s.size
  · exact parse_skip s n at' b w hT h (by omega)
  · exact parseW s n at' b w hT (by omega) bn.1 bn.2 ba.1 ba.2 bb.1 bb.2
end Go.Proofs.YtlhgjhdeidhibaaDoor.Cal
