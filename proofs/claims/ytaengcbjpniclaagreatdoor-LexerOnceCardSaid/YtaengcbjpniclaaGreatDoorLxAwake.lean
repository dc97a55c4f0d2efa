/- Package lexer: Scan at every text; the statements' sanity check. -/
import Derived.Test.YtaengcbjpniclaaGreatDoorLxScan
namespace Go.Proofs.YtaengcbjpniclaaGreatDoor.Lx
open Go.RowKit Go.Lib Go.Proofs.YtaengcbjpniclaaGreatDoor.Bas Go.Proofs.YtaengcbjpniclaaGreatDoor.Cal
set_option linter.unusedVariables false

theorem scan_any (s : ByteArray) (w : World) (hE : Env w) (hs : s.size ≤ 4611686018427387904) : Calls Tryz.prog 10 #[.string s] w (ScanOut (scanV (bl s)) w) := by
  by_cases h : 16384 < s.size
  · exact scan_far s w h hs
  · exact scan_near s w hE (by omega)
/-- A bool; nothing of before has changed. -/
def BoolBe (b : Bool) (w : World) (e : Ending) (w' : World) : Prop := e = .returned (.bool b) ∧ Below w.heap.size w w'
theorem awake_val : scanV [97, 58, 49] = ([⟨1, [97], 0, 0⟩, ⟨4, [58], 0, 1⟩, ⟨2, [], 1, 2⟩], 0, 0) := by kernel_rfl
set_option maxRecDepth 4000 in
set_option maxHeartbeats 2000000 in
theorem awake_any (w : World) (hE : Env w) : Calls Tryz.prog 5 #[] w (BoolBe true w) := by
  have c := Lib.hid (scan_any { data := #[97, 58, 49] } w hE (by decide))
  rw [show bl { data := #[97, 58, 49] } = [97, 58, 49] from rfl, awake_val] at c
  have cN := Lib.hid (fun w => name_any { data := #[97, 45, 49] } w (by decide))
  have cM := Lib.hid (fun w => name_any { data := #[110, 111, 116] } w (by decide))
  rw [show (wordB (bl { data := #[97, 45, 49] }) && !resB (bl { data := #[97, 45, 49] })) = true by decide +kernel] at cN
  rw [show (wordB (bl { data := #[110, 111, 116] }) && !resB (bl { data := #[110, 111, 116] })) = false by decide +kernel] at cM
  clear hE
  go_enter Tryz.func5, Tryz.ntmps5
  go_wp2_with fail
  refine c.out.mono ?_; rintro e W1 ⟨u, rfl, hR, hB⟩
  obtain ⟨p, c0, rfl, _, hp⟩ := hR.at
  obtain ⟨b, off, rfl, hc⟩ := hp (by decide)
  have hc2 := hc 2 (by decide)
  clear hc hp hR
  have q0 : W1.cell? ⟨b, off + 8, none⟩ = some (.int .i64 2) := hc2.1
  have q1 : W1.cell? ⟨b, off + 8 + 1, none⟩ = some (.string { data := #[] }) := hc2.2.1
  have q2 : W1.cell? ⟨b, off + 8 + 2, none⟩ = some (.int .i64 1) := hc2.2.2.1
  have q3 : W1.cell? ⟨b, off + 8 + 3, none⟩ = some (.int .i64 2) := hc2.2.2.2
  clear hc2
  have b1 := Lib.hid hB
  clear hB
  go_wp2_with fail
  refine (cN.out _).mono ?_; rintro e w' ⟨rfl, rfl⟩
  go_wp2_with fail
  refine (cM.out _).mono ?_; rintro e w' ⟨rfl, rfl⟩
  go_wp2_with fail
  go_ret
  exact ⟨rfl, b1.out⟩
end Go.Proofs.YtaengcbjpniclaaGreatDoor.Lx
