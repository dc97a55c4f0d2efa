/- The statements' sanity check, given the program's Format and Count. -/
import Derived.Test.YtdehldcgakdobaaGreatDoorScCon
import Derived.Test.YtdehldcgakdobaaGreatDoorScDeck
namespace Go.Proofs.YtdehldcgakdobaaGreatDoor.Sc
open Go.RowKit Go.Lib Go.Proofs.YtdehldcgakdobaaGreatDoor.Bas Go.Proofs.YtdehldcgakdobaaGreatDoor.Cal Go.Proofs.YtdehldcgakdobaaGreatDoor.Lx Go.Proofs.YtdehldcgakdobaaGreatDoor.Dk
set_option linter.unusedVariables false

/-- A product, at most the greatest amount. -/
def timesV (a b : Int) : Int := if 17592186044416 < a * b then 17592186044416 else a * b
def cntV (L : List At) : Int := if schE L ≠ 0 then 0 else L.foldl (fun n a => timesV n ((domV a).2 - (domV a).1 + 1)) 1
def CountOf (E : World → Prop) (fn : FuncId) : Prop := ∀ (u : Value) (w : World) (L : List At), E w → AttsAt w u L → L.length ≤ 9223372036854775807 → (∀ a ∈ L, AtWf a) → Calls Tryz.prog fn #[.agg #[u]] w (ErrBe (cntV L) w)
set_option maxRecDepth 8000 in
set_option maxHeartbeats 4000000 in
theorem awake_law {E : World → Prop} (hEv : Ev E) (hFmt : FmtOf E 8) (hCnt : CountOf E 25) : AwakeOf E 11 := by
  intro w hE
  have hm : madeS (wi 0 6) = [perilA, storeysA, alarmA] := by kernel_rfl
  have hok := made_ok (wi 0 6) (by decide)
  rw [hm] at hok
  have cM := Lib.hid (fun w => by have := made_any 0 w (by decide) (by decide); rw [hm] at this; exact this)
  have hf : fmtF [perilA, storeysA, alarmA] [1, 3, 0] = ([112, 101, 114, 105, 108, 61, 102, 108, 111, 111, 100, 59, 32, 115, 116, 111, 114, 101, 121, 115, 61, 51, 59, 32, 97, 108, 97, 114, 109, 61, 110, 111], 0) := by kernel_rfl
  have hc : cntV [perilA, storeysA, alarmA] = 72 := by kernel_rfl
  have cF := Lib.hid (fun u w vf hE hA hI => by have := hFmt u w [perilA, storeysA, alarmA] vf [1, 3, 0] hE hA (by decide) hok.2 hI (by decide); rw [hf] at this; exact this)
  have cC := Lib.hid (fun u w hE hA => by have := hCnt u w [perilA, storeysA, alarmA] hE hA (by decide) hok.2; rw [hc] at this; exact this)
  have ht : (tx [112, 101, 114, 105, 108, 61, 102, 108, 111, 111, 100, 59, 32, 115, 116, 111, 114, 101, 121, 115, 61, 51, 59, 32, 97, 108, 97, 114, 109, 61, 110, 111]).toList = [112, 101, 114, 105, 108, 61, 102, 108, 111, 111, 100, 59, 32, 115, 116, 111, 114, 101, 121, 115, 61, 51, 59, 32, 97, 108, 97, 114, 109, 61, 110, 111] := by rw [toList_bl, bl_tx]
  have hev := Lib.hid hEv
  have E0 := Lib.hid hE
  clear hm hok hf hc hEv hFmt hCnt hE
  go_enter Tryz.func11, Tryz.ntmps11
  go_wp2_with fail
  refine (cM.out w).mono ?_; rintro e W1 ⟨u, rfl, hA, hB1⟩
  have E1 := hev.out.keep E0.out hB1
  have hal := alloc_at W1 (.cells #[.int .i64 1, .int .i64 3, .int .i64 0] 3)
  have cX := Lib.hid (cF.out u _ (.slice (some ⟨W1.heap.size, 0, none⟩) 3 3) (hev.out.keep E1 hal) (hA.below hal) ⟨_, 3, rfl, fun _ => ⟨W1.heap.size, 0, rfl, fun j hj => by
    have hj' : j < 3 := hj
    have hcs : j = 0 ∨ j = 1 ∨ j = 2 := by omega
    rcases hcs with rfl | rfl | rfl <;> simp⟩⟩)
  have E2 := Lib.hid (hev.out.keep E1 hal)
  have B2 := Lib.hid (trans_b hB1 hal)
  clear hA hB1 E1 hal E0
  go_wp2_with fail
  refine cX.out.mono ?_; rintro e W3 ⟨rfl, hB3⟩
  have B3 := Lib.hid (trans_b B2.out hB3)
  have E3 := Lib.hid (hev.out.keep E2.out hB3)
  clear hB3 cX E2 B2
  go_wp2_with fail
  refine (cM.out W3).mono ?_; rintro e W4 ⟨u2, rfl, hA, hB4⟩
  have B4 := Lib.hid (trans_b B3.out hB4)
  have cY := Lib.hid (cC.out u2 W4 (hev.out.keep E3.out hB4) hA)
  clear hA hB4 E3 B3
  go_wp2_with fail
  refine cY.out.mono ?_; rintro e W5 ⟨rfl, hB5⟩
  have B5 := Lib.hid (trans_b B4.out hB5)
  clear hB5
  go_wp2_with fail
  go_ret
  exact ⟨rfl, B5.out⟩
end Go.Proofs.YtdehldcgakdobaaGreatDoor.Sc
