/- Texts of hours, written: twoDigits and Format of package calendar, digits and FormatHour of the reference. -/
import Derived.Test.YtlhgjhdeidhibaaDoorCalParse
import Derived.Laws.IdiomStrings
import Derived.Laws.Concat
namespace Go.Proofs.YtlhgjhdeidhibaaDoor.Cal
open Go.RowKit Go.Lib Go.Proofs.YtlhgjhdeidhibaaDoor.Bas
set_option linter.unusedVariables false

/-- A digit's byte. -/
def dgc (k : Int) : UInt8 := UInt8.ofNat (48 + k.toNat)
theorem dgc_nat (k : Int) (h0 : 0 ≤ k) (h1 : k ≤ 9) : ((dgc k).toNat : Int) = 48 + k := by
  unfold dgc
  have : (UInt8.ofNat (48 + k.toNat)).toNat = (48 + k.toNat) % 256 := by simp
  omega
/-- The text of a list of bytes. -/
def tx (l : List UInt8) : ByteArray := ⟨l.toArray⟩
theorem tx_size (l : List UInt8) : (tx l).size = l.length := by simp [tx, ByteArray.size]
theorem tx_append (x y : List UInt8) : tx x ++ tx y = tx (x ++ y) := by
  apply ByteArray.ext
  simp [tx]
theorem tx_add (x y : List UInt8) (P : Program) (w : World) (h : x.length + y.length ≤ 100) : (Op.stringOp .add (tx x) (tx y)).run P w = .ok (.string (tx (x ++ y))) w := by
  rw [← tx_append]
  exact run_string_add_sum w _ _ (by rw [tx_size, tx_size]; omega)

def StrBe (s : ByteArray) (w : World) (e : Ending) (w' : World) : Prop := e = .returned (.string s) ∧ Below w.heap.size w w'
def two (n : Int) : List UInt8 := [dgc (n / 10), dgc (n % 10)]
set_option maxHeartbeats 1000000 in
theorem two_any (n : Int) (w : World) (h0 : 0 ≤ n) (h1 : n ≤ 99) : Calls Tryd.prog 49 #[.int .i64 n] w (StrBe (tx (two n)) w) := by
  have hrun : (convert 38 9 (.slice (some ⟨w.heap.size, 0, none⟩) 2 2)).run Tryd.prog (w.alloc (.cells #[.int .u8 (48 + n / 10), .int .u8 (48 + n % 10)] 5)) = .ok (.string (tx (two n))) (w.alloc (.cells #[.int .u8 (48 + n / 10), .int .u8 (48 + n % 10)] 5)) :=
    run_convert_bytes_back (w.alloc (.cells #[.int .u8 (48 + n / 10), .int .u8 (48 + n % 10)] 5)) 38 9 5 ⟨w.heap.size, 0, none⟩ 2 (two n) Tryd.underlying38 Tryd.underlying5 Tryd.underlying9 (fun j hj => by
      have hj2 : j < 2 := hj
      rcases (show j = 0 ∨ j = 1 by omega) with e | e <;> subst e
      · show _ = some (Value.int .u8 ((dgc (n / 10)).toNat : Int))
        rw [dgc_nat _ (by omega) (by omega)]; simp [Addr.add]
      · show _ = some (Value.int .u8 ((dgc (n % 10)).toNat : Int))
        rw [dgc_nat _ (by omega) (by omega)]; simp [Addr.add])
  go_enter Tryd.func49, Tryd.ntmps49
  go_wp2
  go_ret
  exact ⟨rfl, alloc1 _ _⟩

def strSz (v : Value) : Nat := match v with | .string b => b.size | _ => 0
/-- The last k digits. -/
def dgs (n : Nat) : Nat → List UInt8
  | 0 => []
  | k + 1 => dgc (((n / 10 ^ k : Nat) : Int) % 10) :: dgs n k
theorem dgs_length (n k : Nat) : (dgs n k).length = k := by induction k with | zero => rfl | succ k ih => simp [dgs, ih]
set_option maxHeartbeats 2000000 in
theorem digits_any (n L : Nat) (w : World) (hL : L ≤ 4) (hn : n < 10 ^ L) : Calls Tryd.prog 50 #[.int .i64 n, .int .i64 L] w (StrBe (tx (dgs n L)) w) := by
  have hn9 : n ≤ 9999 := by
    have : (10 : Nat) ^ L ≤ 10 ^ 4 := Nat.pow_le_pow_right (by omega) hL
    have e : (10 : Nat) ^ 4 = 10000 := rfl
    omega
  have hn' := Lib.hid hn
  clear hn
  go_enter Tryd.func50, Tryd.ntmps50
  go_wp2_with fail
  go_loopw [0, 5] (fun t s wr => ∃ k : Nat, k ≤ L ∧ t = .int .i64 ((n / 10 ^ k : Nat) : Int) ∧ s = .string (tx (dgs n k)) ∧ Hid (Below w.heap.size w wr)) (fun _ s _ => 5 - strSz s)
  case atStart => exact ⟨0, Nat.zero_le _, by simp, rfl, Lib.hid (Below.refl _ _)⟩
  case round =>
    obtain ⟨k, hk, rfl, rfl, hB⟩ := hrel
    have hsz := tx_size (dgs n k)
    rw [dgs_length] at hsz
    by_cases hlt : k < L
    · have hq : (n / 10 ^ k : Nat) / 10 = n / 10 ^ (k + 1) := by rw [Nat.div_div_eq_div_mul, Nat.pow_succ]
      have hq' := Lib.hid hq
      have hq9 : n / 10 ^ k ≤ 9999 := Nat.le_trans (Nat.div_le_self _ _) hn9
      have hd : dgs n (k + 1) = dgc (((n / 10 ^ k : Nat) : Int) % 10) :: dgs n k := rfl
      have hd' := Lib.hid hd
      have hsz1 := tx_size (dgs n (k + 1))
      rw [dgs_length] at hsz1
      have hsz1' := Lib.hid hsz1
      clear hq hd hsz1
      generalize n / 10 ^ k = q at *
      have hz1 : (tx [dgc ((q : Int) % 10)]).size = 1 := tx_size _
      have hrun : (convert 38 9 (.slice (some ⟨wr.heap.size, 0, none⟩) 1 1)).run Tryd.prog (wr.alloc (.cells #[.int .u8 (48 + (q : Int) % 10)] 5)) = .ok (.string (tx [dgc ((q : Int) % 10)])) (wr.alloc (.cells #[.int .u8 (48 + (q : Int) % 10)] 5)) :=
        run_convert_bytes_back (wr.alloc (.cells #[.int .u8 (48 + (q : Int) % 10)] 5)) 38 9 5 ⟨wr.heap.size, 0, none⟩ 1 [dgc ((q : Int) % 10)] Tryd.underlying38 Tryd.underlying5 Tryd.underlying9 (fun j hj => by
          have hj2 : j < 1 := hj
          obtain rfl : j = 0 := by omega
          show _ = some (Value.int .u8 ((dgc ((q : Int) % 10)).toNat : Int))
          rw [dgc_nat _ (by omega) (by omega)]; simp [Addr.add])
      have hlt1 : decide (((tx (dgs n k)).size : Int) < (L : Int)) = true := by simp; omega
      have hlt2 : decide ((tx (dgs n k)).size < L) = true := by simp; omega
      have hfin : ∀ wv, (wv : World) = wr → Below w.heap.size w (wr.alloc (.cells #[.int .u8 (48 + (q : Int) % 10)] 5)) := fun _ _ => hB.out.alloc (hB.out.size) _
      have hfin' := Lib.hid (hfin wr rfl)
      clear hfin
      go_wp2
      all_goals
        go_roundw
        case rel => exact ⟨k + 1, by omega, by rw [← hq'.out]; simp, by rw [hd'.out, tx_append]; rfl, Lib.hid hfin'.out⟩
        case measure => rw [tx_append]; simp only [strSz, tx_size, List.length_append, dgs_length]; simp; omega
    · obtain rfl : k = L := by omega
      have hq : n / 10 ^ k = 0 := Nat.div_eq_of_lt hn'.out
      rw [hq]
      have hlt1 : decide (((tx (dgs n k)).size : Int) < (k : Int)) = false := by simp; omega
      have hlt2 : decide ((tx (dgs n k)).size < k) = false := by simp; omega
      clear hq hlt
      go_wp2
      go_ret
      exact ⟨rfl, hB.out⟩
end Go.Proofs.YtlhgjhdeidhibaaDoor.Cal
