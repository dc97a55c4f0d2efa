/- The reference's SameInts. -/
import Derived.Test.YtdehldcgakdobaaGreatDoorScRef
import Derived.Test.YtdehldcgakdobaaGreatDoorIntsB
namespace Go.Proofs.YtdehldcgakdobaaGreatDoor.Sc
open Go.RowKit Go.Lib Go.Proofs.YtdehldcgakdobaaGreatDoor.Bas Go.Proofs.YtdehldcgakdobaaGreatDoor.Cal Go.Proofs.YtdehldcgakdobaaGreatDoor.Lx
set_option linter.unusedVariables false

theorem ints_ext {A B : List Int} (h : A.length = B.length) (h2 : ∀ j, j < A.length → A.getD j 0 = B.getD j 0) : A = B := by
  apply List.ext_getElem h
  intro i h3 h4
  have := h2 i h3
  simpa [List.getD_eq_getElem?_getD, h3, h4] using this
set_option maxHeartbeats 4000000 in
theorem sints_any (va vb : Value) (A B : List Int) (w : World) (hA : IntsAt w va A) (hB : IntsAt w vb B) (hl : A.length ≤ 9223372036854775807) (hl2 : B.length ≤ 9223372036854775807) :
    Calls Tryz.prog 10 #[va, vb] w (BoolDr2 (decide (A = B)) w) := by
  obtain ⟨p1, c1, rfl, hp1⟩ := hA
  obtain ⟨p2, c2, rfl, hp2⟩ := hB
  have hN := Lib.hid (show A.length ≠ B.length → decide (A = B) = false from fun h => decide_eq_false (fun e => h (by rw [e])))
  have hM := Lib.hid (show ∀ j, A.getD j 0 ≠ B.getD j 0 → decide (A = B) = false from fun j h => decide_eq_false (fun e => h (by rw [e])))
  have hY := Lib.hid (show A.length = B.length → (∀ j, j < A.length → A.getD j 0 = B.getD j 0) → decide (A = B) = true from fun h h2 => decide_eq_true (ints_ext h h2))
  obtain ⟨n, hn⟩ : ∃ n, A.length = n := ⟨_, rfl⟩
  obtain ⟨m, hm⟩ : ∃ n, B.length = n := ⟨_, rfl⟩
  rw [hn] at hp1 hl hN hY ⊢
  rw [hm] at hp2 hl2 hN hY ⊢
  have hp1' := Lib.hid hp1
  have hp2' := Lib.hid hp2
  generalize decide (A = B) = R at *
  clear hn hm hp1 hp2
  by_cases hnm : n = m
  · subst hnm
    have hY' := Lib.hid (hY.out rfl)
    clear hN hY
    go_enter Tryz.func10, Tryz.ntmps10
    go_wp2_with fail
    go_loopw [5] (fun i wr => ∃ k : Nat, k ≤ n ∧ i = .int .i64 k ∧ Hid (Dr w wr) ∧ Hid (∀ j, j < k → A.getD j 0 = B.getD j 0)) (fun i _ => n - (RowKit.intOf i).toNat)
    case atStart => exact ⟨0, Nat.zero_le _, rfl, Lib.hid (Dr.refl w), Lib.hid (fun j hj => absurd hj (Nat.not_lt_zero _))⟩
    case round =>
      obtain ⟨k, hk, rfl, hD, hZ⟩ := hrel
      by_cases hlt : k < n
      · obtain ⟨b1, o1, rfl, hc1⟩ := hp1'.out (by omega)
        obtain ⟨b2, o2, rfl, hc2⟩ := hp2'.out (by omega)
        obtain ⟨nd, hnd⟩ := hD.out
        subst hnd
        have x0 := hc1 k hlt
        have y0 := hc2 k hlt
        have hno := Lib.hid (hM.out k)
        have hye := Lib.hid (fun (h : A.getD k 0 = B.getD k 0) => (show ∀ j, j < k + 1 → A.getD j 0 = B.getD j 0 from fun j hj => by
          by_cases e : j = k
          · rw [e]; exact h
          · exact hZ.out j (by omega)))
        have hk64 : IntKind.i64.wrap ((k : Int) + 1) = (k : Int) + 1 := IntWalk.i64_in _ (by omega)
        clear hc1 hc2
        generalize A.getD k 0 = x at *
        generalize B.getD k 0 = y at *
        by_cases hxy : x = y
        · have hZ2 := Lib.hid (hye.out hxy)
          clear hno hye
          subst hxy
          go_wp2_with fail
          go_quiet (fail)
          go_wp2_with fail
          go_roundw
          case rel => exact ⟨k + 1, by omega, by go_num, Lib.hid (show Dr w _ from by first | exact ⟨_, rfl⟩ | exact Dr.trans ⟨nd, rfl⟩ ⟨_, rfl⟩), hZ2⟩
          case measure => simp [RowKit.intOf]; omega
        · have hE := Lib.hid (hno.out hxy)
          have t1 : (x == y) = false := by simpa using hxy
          clear hno hye
          go_wp2_with fail
          go_quiet (fail)
          go_wp2_with fail
          go_ret
          exact ⟨ret_b hE.out.symm, by first | exact ⟨_, rfl⟩ | exact Dr.trans ⟨nd, rfl⟩ ⟨_, rfl⟩⟩
      · have hE := Lib.hid (hY'.out (fun j hj => hZ.out j (by omega)))
        go_wp2_with fail
        go_ret
        exact ⟨ret_b hE.out.symm, hD.out⟩
  · have hE := Lib.hid (hN.out hnm)
    have t1 : ((n : Int) == (m : Int)) = false := by simp; omega
    have t2 : (n == m) = false := by simpa using hnm
    clear hN hM hY
    go_enter Tryz.func10, Tryz.ntmps10
    go_wp2_with fail
    go_ret
    exact ⟨ret_b hE.out.symm, Dr.refl w⟩
end Go.Proofs.YtdehldcgakdobaaGreatDoor.Sc
