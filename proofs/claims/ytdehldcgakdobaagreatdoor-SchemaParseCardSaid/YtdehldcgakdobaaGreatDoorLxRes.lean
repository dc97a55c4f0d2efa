/- The reserved words, in the program and in the reference. -/
import Derived.Test.YtdehldcgakdobaaGreatDoorLxWord
namespace Go.Proofs.YtdehldcgakdobaaGreatDoor.Lx
open Go.RowKit Go.Lib Go.Proofs.YtdehldcgakdobaaGreatDoor.Bas Go.Proofs.YtdehldcgakdobaaGreatDoor.Cal
set_option linter.unusedVariables false

/-- Is it reserved? -/
def resB (l : List UInt8) : Bool := (l == [97, 110, 100]) || ((l == [97, 118, 101, 114, 97, 103, 101]) || ((l == [99, 111, 105, 110, 115, 117, 114, 97, 110, 99, 101]) || ((l == [99, 111, 110, 100, 105, 116, 105, 111, 110]) || ((l == [99, 111, 118, 101, 114]) || ((l == [100, 101, 100, 117, 99, 116, 105, 98, 108, 101]) || ((l == [100, 101, 102, 105, 110, 101]) || ((l == [101, 110, 100]) || ((l == [101, 110, 100, 111, 114, 115, 101]) || ((l == [101, 120, 99, 108, 117, 100, 101]) || ((l == [102, 97, 108, 115, 101]) || ((l == [102, 114, 97, 110, 99, 104, 105, 115, 101]) || ((l == [102, 114, 111, 109]) || ((l == [105, 110]) || ((l == [108, 105, 109, 105, 116]) || ((l == [110, 111, 116]) || ((l == [111, 114]) || ((l == [114, 101, 109, 111, 118, 101]) || ((l == [115, 117, 98, 108, 105, 109, 105, 116]) || ((l == [116, 111]) || ((l == [116, 114, 117, 101]) || ((l == [117, 110, 108, 101, 115, 115]) || ((l == [119, 104, 101, 110])))))))))))))))))))))))
set_option maxHeartbeats 8000000 in
theorem reserved_any (s : ByteArray) (w : World) : Calls Tryz.prog 66 #[.string s] w (BoolSame (resB (bl s)) w) := by
  cases t0 : (s.toList == [97, 110, 100])
  case true =>
    have hr : resB (bl s) = true := by rw [← toList_bl]; simp only [resB, t0, Bool.true_or]
    rw [hr]
    clear hr
    go_enter Tryz.func66, Tryz.ntmps66
    go_wp2_with fail
    go_ret
    exact ⟨rfl, rfl⟩
  cases t1 : (s.toList == [97, 118, 101, 114, 97, 103, 101])
  case true =>
    have hr : resB (bl s) = true := by rw [← toList_bl]; simp only [resB, t0, t1, Bool.true_or, Bool.false_or]
    rw [hr]
    clear hr
    go_enter Tryz.func66, Tryz.ntmps66
    go_wp2_with fail
    go_ret
    exact ⟨rfl, rfl⟩
  cases t2 : (s.toList == [99, 111, 105, 110, 115, 117, 114, 97, 110, 99, 101])
  case true =>
    have hr : resB (bl s) = true := by rw [← toList_bl]; simp only [resB, t0, t1, t2, Bool.true_or, Bool.false_or]
    rw [hr]
    clear hr
    go_enter Tryz.func66, Tryz.ntmps66
    go_wp2_with fail
    go_ret
    exact ⟨rfl, rfl⟩
  cases t3 : (s.toList == [99, 111, 110, 100, 105, 116, 105, 111, 110])
  case true =>
    have hr : resB (bl s) = true := by rw [← toList_bl]; simp only [resB, t0, t1, t2, t3, Bool.true_or, Bool.false_or]
    rw [hr]
    clear hr
    go_enter Tryz.func66, Tryz.ntmps66
    go_wp2_with fail
    go_ret
    exact ⟨rfl, rfl⟩
  cases t4 : (s.toList == [99, 111, 118, 101, 114])
  case true =>
    have hr : resB (bl s) = true := by rw [← toList_bl]; simp only [resB, t0, t1, t2, t3, t4, Bool.true_or, Bool.false_or]
    rw [hr]
    clear hr
    go_enter Tryz.func66, Tryz.ntmps66
    go_wp2_with fail
    go_ret
    exact ⟨rfl, rfl⟩
  cases t5 : (s.toList == [100, 101, 100, 117, 99, 116, 105, 98, 108, 101])
  case true =>
    have hr : resB (bl s) = true := by rw [← toList_bl]; simp only [resB, t0, t1, t2, t3, t4, t5, Bool.true_or, Bool.false_or]
    rw [hr]
    clear hr
    go_enter Tryz.func66, Tryz.ntmps66
    go_wp2_with fail
    go_ret
    exact ⟨rfl, rfl⟩
  cases t6 : (s.toList == [100, 101, 102, 105, 110, 101])
  case true =>
    have hr : resB (bl s) = true := by rw [← toList_bl]; simp only [resB, t0, t1, t2, t3, t4, t5, t6, Bool.true_or, Bool.false_or]
    rw [hr]
    clear hr
    go_enter Tryz.func66, Tryz.ntmps66
    go_wp2_with fail
    go_ret
    exact ⟨rfl, rfl⟩
  cases t7 : (s.toList == [101, 110, 100])
  case true =>
    have hr : resB (bl s) = true := by rw [← toList_bl]; simp only [resB, t0, t1, t2, t3, t4, t5, t6, t7, Bool.true_or, Bool.false_or]
    rw [hr]
    clear hr
    go_enter Tryz.func66, Tryz.ntmps66
    go_wp2_with fail
    go_ret
    exact ⟨rfl, rfl⟩
  cases t8 : (s.toList == [101, 110, 100, 111, 114, 115, 101])
  case true =>
    have hr : resB (bl s) = true := by rw [← toList_bl]; simp only [resB, t0, t1, t2, t3, t4, t5, t6, t7, t8, Bool.true_or, Bool.false_or]
    rw [hr]
    clear hr
    go_enter Tryz.func66, Tryz.ntmps66
    go_wp2_with fail
    go_ret
    exact ⟨rfl, rfl⟩
  cases t9 : (s.toList == [101, 120, 99, 108, 117, 100, 101])
  case true =>
    have hr : resB (bl s) = true := by rw [← toList_bl]; simp only [resB, t0, t1, t2, t3, t4, t5, t6, t7, t8, t9, Bool.true_or, Bool.false_or]
    rw [hr]
    clear hr
    go_enter Tryz.func66, Tryz.ntmps66
    go_wp2_with fail
    go_ret
    exact ⟨rfl, rfl⟩
  cases t10 : (s.toList == [102, 97, 108, 115, 101])
  case true =>
    have hr : resB (bl s) = true := by rw [← toList_bl]; simp only [resB, t0, t1, t2, t3, t4, t5, t6, t7, t8, t9, t10, Bool.true_or, Bool.false_or]
    rw [hr]
    clear hr
    go_enter Tryz.func66, Tryz.ntmps66
    go_wp2_with fail
    go_ret
    exact ⟨rfl, rfl⟩
  cases t11 : (s.toList == [102, 114, 97, 110, 99, 104, 105, 115, 101])
  case true =>
    have hr : resB (bl s) = true := by rw [← toList_bl]; simp only [resB, t0, t1, t2, t3, t4, t5, t6, t7, t8, t9, t10, t11, Bool.true_or, Bool.false_or]
    rw [hr]
    clear hr
    go_enter Tryz.func66, Tryz.ntmps66
    go_wp2_with fail
    go_ret
    exact ⟨rfl, rfl⟩
  cases t12 : (s.toList == [102, 114, 111, 109])
  case true =>
    have hr : resB (bl s) = true := by rw [← toList_bl]; simp only [resB, t0, t1, t2, t3, t4, t5, t6, t7, t8, t9, t10, t11, t12, Bool.true_or, Bool.false_or]
    rw [hr]
    clear hr
    go_enter Tryz.func66, Tryz.ntmps66
    go_wp2_with fail
    go_ret
    exact ⟨rfl, rfl⟩
  cases t13 : (s.toList == [105, 110])
  case true =>
    have hr : resB (bl s) = true := by rw [← toList_bl]; simp only [resB, t0, t1, t2, t3, t4, t5, t6, t7, t8, t9, t10, t11, t12, t13, Bool.true_or, Bool.false_or]
    rw [hr]
    clear hr
    go_enter Tryz.func66, Tryz.ntmps66
    go_wp2_with fail
    go_ret
    exact ⟨rfl, rfl⟩
  cases t14 : (s.toList == [108, 105, 109, 105, 116])
  case true =>
    have hr : resB (bl s) = true := by rw [← toList_bl]; simp only [resB, t0, t1, t2, t3, t4, t5, t6, t7, t8, t9, t10, t11, t12, t13, t14, Bool.true_or, Bool.false_or]
    rw [hr]
    clear hr
    go_enter Tryz.func66, Tryz.ntmps66
    go_wp2_with fail
    go_ret
    exact ⟨rfl, rfl⟩
  cases t15 : (s.toList == [110, 111, 116])
  case true =>
    have hr : resB (bl s) = true := by rw [← toList_bl]; simp only [resB, t0, t1, t2, t3, t4, t5, t6, t7, t8, t9, t10, t11, t12, t13, t14, t15, Bool.true_or, Bool.false_or]
    rw [hr]
    clear hr
    go_enter Tryz.func66, Tryz.ntmps66
    go_wp2_with fail
    go_ret
    exact ⟨rfl, rfl⟩
  cases t16 : (s.toList == [111, 114])
  case true =>
    have hr : resB (bl s) = true := by rw [← toList_bl]; simp only [resB, t0, t1, t2, t3, t4, t5, t6, t7, t8, t9, t10, t11, t12, t13, t14, t15, t16, Bool.true_or, Bool.false_or]
    rw [hr]
    clear hr
    go_enter Tryz.func66, Tryz.ntmps66
    go_wp2_with fail
    go_ret
    exact ⟨rfl, rfl⟩
  cases t17 : (s.toList == [114, 101, 109, 111, 118, 101])
  case true =>
    have hr : resB (bl s) = true := by rw [← toList_bl]; simp only [resB, t0, t1, t2, t3, t4, t5, t6, t7, t8, t9, t10, t11, t12, t13, t14, t15, t16, t17, Bool.true_or, Bool.false_or]
    rw [hr]
    clear hr
    go_enter Tryz.func66, Tryz.ntmps66
    go_wp2_with fail
    go_ret
    exact ⟨rfl, rfl⟩
  cases t18 : (s.toList == [115, 117, 98, 108, 105, 109, 105, 116])
  case true =>
    have hr : resB (bl s) = true := by rw [← toList_bl]; simp only [resB, t0, t1, t2, t3, t4, t5, t6, t7, t8, t9, t10, t11, t12, t13, t14, t15, t16, t17, t18, Bool.true_or, Bool.false_or]
    rw [hr]
    clear hr
    go_enter Tryz.func66, Tryz.ntmps66
    go_wp2_with fail
    go_ret
    exact ⟨rfl, rfl⟩
  cases t19 : (s.toList == [116, 111])
  case true =>
    have hr : resB (bl s) = true := by rw [← toList_bl]; simp only [resB, t0, t1, t2, t3, t4, t5, t6, t7, t8, t9, t10, t11, t12, t13, t14, t15, t16, t17, t18, t19, Bool.true_or, Bool.false_or]
    rw [hr]
    clear hr
    go_enter Tryz.func66, Tryz.ntmps66
    go_wp2_with fail
    go_ret
    exact ⟨rfl, rfl⟩
  cases t20 : (s.toList == [116, 114, 117, 101])
  case true =>
    have hr : resB (bl s) = true := by rw [← toList_bl]; simp only [resB, t0, t1, t2, t3, t4, t5, t6, t7, t8, t9, t10, t11, t12, t13, t14, t15, t16, t17, t18, t19, t20, Bool.true_or, Bool.false_or]
    rw [hr]
    clear hr
    go_enter Tryz.func66, Tryz.ntmps66
    go_wp2_with fail
    go_ret
    exact ⟨rfl, rfl⟩
  cases t21 : (s.toList == [117, 110, 108, 101, 115, 115])
  case true =>
    have hr : resB (bl s) = true := by rw [← toList_bl]; simp only [resB, t0, t1, t2, t3, t4, t5, t6, t7, t8, t9, t10, t11, t12, t13, t14, t15, t16, t17, t18, t19, t20, t21, Bool.true_or, Bool.false_or]
    rw [hr]
    clear hr
    go_enter Tryz.func66, Tryz.ntmps66
    go_wp2_with fail
    go_ret
    exact ⟨rfl, rfl⟩
  cases t22 : (s.toList == [119, 104, 101, 110])
  case true =>
    have hr : resB (bl s) = true := by rw [← toList_bl]; simp only [resB, t0, t1, t2, t3, t4, t5, t6, t7, t8, t9, t10, t11, t12, t13, t14, t15, t16, t17, t18, t19, t20, t21, t22, Bool.false_or]
    rw [hr]
    clear hr
    go_enter Tryz.func66, Tryz.ntmps66
    go_wp2_with fail
    go_ret
    exact ⟨rfl, rfl⟩
  have hr : resB (bl s) = false := by rw [← toList_bl]; simp only [resB, t0, t1, t2, t3, t4, t5, t6, t7, t8, t9, t10, t11, t12, t13, t14, t15, t16, t17, t18, t19, t20, t21, t22, Bool.false_or]
  rw [hr]
  clear hr
  go_enter Tryz.func66, Tryz.ntmps66
  go_wp2_with fail
  go_ret
  exact ⟨rfl, rfl⟩
set_option maxHeartbeats 8000000 in
theorem rreserved_any (s : ByteArray) (w : World) : Calls Tryz.prog 61 #[.string s] w (BoolSame (resB (bl s)) w) := by
  cases t0 : (s.toList == [97, 110, 100])
  case true =>
    have hr : resB (bl s) = true := by rw [← toList_bl]; simp only [resB, t0, Bool.true_or]
    rw [hr]
    clear hr
    go_enter Tryz.func61, Tryz.ntmps61
    go_wp2_with fail
    go_ret
    exact ⟨rfl, rfl⟩
  cases t1 : (s.toList == [97, 118, 101, 114, 97, 103, 101])
  case true =>
    have hr : resB (bl s) = true := by rw [← toList_bl]; simp only [resB, t0, t1, Bool.true_or, Bool.false_or]
    rw [hr]
    clear hr
    go_enter Tryz.func61, Tryz.ntmps61
    go_wp2_with fail
    go_ret
    exact ⟨rfl, rfl⟩
  cases t2 : (s.toList == [99, 111, 105, 110, 115, 117, 114, 97, 110, 99, 101])
  case true =>
    have hr : resB (bl s) = true := by rw [← toList_bl]; simp only [resB, t0, t1, t2, Bool.true_or, Bool.false_or]
    rw [hr]
    clear hr
    go_enter Tryz.func61, Tryz.ntmps61
    go_wp2_with fail
    go_ret
    exact ⟨rfl, rfl⟩
  cases t3 : (s.toList == [99, 111, 110, 100, 105, 116, 105, 111, 110])
  case true =>
    have hr : resB (bl s) = true := by rw [← toList_bl]; simp only [resB, t0, t1, t2, t3, Bool.true_or, Bool.false_or]
    rw [hr]
    clear hr
    go_enter Tryz.func61, Tryz.ntmps61
    go_wp2_with fail
    go_ret
    exact ⟨rfl, rfl⟩
  cases t4 : (s.toList == [99, 111, 118, 101, 114])
  case true =>
    have hr : resB (bl s) = true := by rw [← toList_bl]; simp only [resB, t0, t1, t2, t3, t4, Bool.true_or, Bool.false_or]
    rw [hr]
    clear hr
    go_enter Tryz.func61, Tryz.ntmps61
    go_wp2_with fail
    go_ret
    exact ⟨rfl, rfl⟩
  cases t5 : (s.toList == [100, 101, 100, 117, 99, 116, 105, 98, 108, 101])
  case true =>
    have hr : resB (bl s) = true := by rw [← toList_bl]; simp only [resB, t0, t1, t2, t3, t4, t5, Bool.true_or, Bool.false_or]
    rw [hr]
    clear hr
    go_enter Tryz.func61, Tryz.ntmps61
    go_wp2_with fail
    go_ret
    exact ⟨rfl, rfl⟩
  cases t6 : (s.toList == [100, 101, 102, 105, 110, 101])
  case true =>
    have hr : resB (bl s) = true := by rw [← toList_bl]; simp only [resB, t0, t1, t2, t3, t4, t5, t6, Bool.true_or, Bool.false_or]
    rw [hr]
    clear hr
    go_enter Tryz.func61, Tryz.ntmps61
    go_wp2_with fail
    go_ret
    exact ⟨rfl, rfl⟩
  cases t7 : (s.toList == [101, 110, 100])
  case true =>
    have hr : resB (bl s) = true := by rw [← toList_bl]; simp only [resB, t0, t1, t2, t3, t4, t5, t6, t7, Bool.true_or, Bool.false_or]
    rw [hr]
    clear hr
    go_enter Tryz.func61, Tryz.ntmps61
    go_wp2_with fail
    go_ret
    exact ⟨rfl, rfl⟩
  cases t8 : (s.toList == [101, 110, 100, 111, 114, 115, 101])
  case true =>
    have hr : resB (bl s) = true := by rw [← toList_bl]; simp only [resB, t0, t1, t2, t3, t4, t5, t6, t7, t8, Bool.true_or, Bool.false_or]
    rw [hr]
    clear hr
    go_enter Tryz.func61, Tryz.ntmps61
    go_wp2_with fail
    go_ret
    exact ⟨rfl, rfl⟩
  cases t9 : (s.toList == [101, 120, 99, 108, 117, 100, 101])
  case true =>
    have hr : resB (bl s) = true := by rw [← toList_bl]; simp only [resB, t0, t1, t2, t3, t4, t5, t6, t7, t8, t9, Bool.true_or, Bool.false_or]
    rw [hr]
    clear hr
    go_enter Tryz.func61, Tryz.ntmps61
    go_wp2_with fail
    go_ret
    exact ⟨rfl, rfl⟩
  cases t10 : (s.toList == [102, 97, 108, 115, 101])
  case true =>
    have hr : resB (bl s) = true := by rw [← toList_bl]; simp only [resB, t0, t1, t2, t3, t4, t5, t6, t7, t8, t9, t10, Bool.true_or, Bool.false_or]
    rw [hr]
    clear hr
    go_enter Tryz.func61, Tryz.ntmps61
    go_wp2_with fail
    go_ret
    exact ⟨rfl, rfl⟩
  cases t11 : (s.toList == [102, 114, 97, 110, 99, 104, 105, 115, 101])
  case true =>
    have hr : resB (bl s) = true := by rw [← toList_bl]; simp only [resB, t0, t1, t2, t3, t4, t5, t6, t7, t8, t9, t10, t11, Bool.true_or, Bool.false_or]
    rw [hr]
    clear hr
    go_enter Tryz.func61, Tryz.ntmps61
    go_wp2_with fail
    go_ret
    exact ⟨rfl, rfl⟩
  cases t12 : (s.toList == [102, 114, 111, 109])
  case true =>
    have hr : resB (bl s) = true := by rw [← toList_bl]; simp only [resB, t0, t1, t2, t3, t4, t5, t6, t7, t8, t9, t10, t11, t12, Bool.true_or, Bool.false_or]
    rw [hr]
    clear hr
    go_enter Tryz.func61, Tryz.ntmps61
    go_wp2_with fail
    go_ret
    exact ⟨rfl, rfl⟩
  cases t13 : (s.toList == [105, 110])
  case true =>
    have hr : resB (bl s) = true := by rw [← toList_bl]; simp only [resB, t0, t1, t2, t3, t4, t5, t6, t7, t8, t9, t10, t11, t12, t13, Bool.true_or, Bool.false_or]
    rw [hr]
    clear hr
    go_enter Tryz.func61, Tryz.ntmps61
    go_wp2_with fail
    go_ret
    exact ⟨rfl, rfl⟩
  cases t14 : (s.toList == [108, 105, 109, 105, 116])
  case true =>
    have hr : resB (bl s) = true := by rw [← toList_bl]; simp only [resB, t0, t1, t2, t3, t4, t5, t6, t7, t8, t9, t10, t11, t12, t13, t14, Bool.true_or, Bool.false_or]
    rw [hr]
    clear hr
    go_enter Tryz.func61, Tryz.ntmps61
    go_wp2_with fail
    go_ret
    exact ⟨rfl, rfl⟩
  cases t15 : (s.toList == [110, 111, 116])
  case true =>
    have hr : resB (bl s) = true := by rw [← toList_bl]; simp only [resB, t0, t1, t2, t3, t4, t5, t6, t7, t8, t9, t10, t11, t12, t13, t14, t15, Bool.true_or, Bool.false_or]
    rw [hr]
    clear hr
    go_enter Tryz.func61, Tryz.ntmps61
    go_wp2_with fail
    go_ret
    exact ⟨rfl, rfl⟩
  cases t16 : (s.toList == [111, 114])
  case true =>
    have hr : resB (bl s) = true := by rw [← toList_bl]; simp only [resB, t0, t1, t2, t3, t4, t5, t6, t7, t8, t9, t10, t11, t12, t13, t14, t15, t16, Bool.true_or, Bool.false_or]
    rw [hr]
    clear hr
    go_enter Tryz.func61, Tryz.ntmps61
    go_wp2_with fail
    go_ret
    exact ⟨rfl, rfl⟩
  cases t17 : (s.toList == [114, 101, 109, 111, 118, 101])
  case true =>
    have hr : resB (bl s) = true := by rw [← toList_bl]; simp only [resB, t0, t1, t2, t3, t4, t5, t6, t7, t8, t9, t10, t11, t12, t13, t14, t15, t16, t17, Bool.true_or, Bool.false_or]
    rw [hr]
    clear hr
    go_enter Tryz.func61, Tryz.ntmps61
    go_wp2_with fail
    go_ret
    exact ⟨rfl, rfl⟩
  cases t18 : (s.toList == [115, 117, 98, 108, 105, 109, 105, 116])
  case true =>
    have hr : resB (bl s) = true := by rw [← toList_bl]; simp only [resB, t0, t1, t2, t3, t4, t5, t6, t7, t8, t9, t10, t11, t12, t13, t14, t15, t16, t17, t18, Bool.true_or, Bool.false_or]
    rw [hr]
    clear hr
    go_enter Tryz.func61, Tryz.ntmps61
    go_wp2_with fail
    go_ret
    exact ⟨rfl, rfl⟩
  cases t19 : (s.toList == [116, 111])
  case true =>
    have hr : resB (bl s) = true := by rw [← toList_bl]; simp only [resB, t0, t1, t2, t3, t4, t5, t6, t7, t8, t9, t10, t11, t12, t13, t14, t15, t16, t17, t18, t19, Bool.true_or, Bool.false_or]
    rw [hr]
    clear hr
    go_enter Tryz.func61, Tryz.ntmps61
    go_wp2_with fail
    go_ret
    exact ⟨rfl, rfl⟩
  cases t20 : (s.toList == [116, 114, 117, 101])
  case true =>
    have hr : resB (bl s) = true := by rw [← toList_bl]; simp only [resB, t0, t1, t2, t3, t4, t5, t6, t7, t8, t9, t10, t11, t12, t13, t14, t15, t16, t17, t18, t19, t20, Bool.true_or, Bool.false_or]
    rw [hr]
    clear hr
    go_enter Tryz.func61, Tryz.ntmps61
    go_wp2_with fail
    go_ret
    exact ⟨rfl, rfl⟩
  cases t21 : (s.toList == [117, 110, 108, 101, 115, 115])
  case true =>
    have hr : resB (bl s) = true := by rw [← toList_bl]; simp only [resB, t0, t1, t2, t3, t4, t5, t6, t7, t8, t9, t10, t11, t12, t13, t14, t15, t16, t17, t18, t19, t20, t21, Bool.true_or, Bool.false_or]
    rw [hr]
    clear hr
    go_enter Tryz.func61, Tryz.ntmps61
    go_wp2_with fail
    go_ret
    exact ⟨rfl, rfl⟩
  cases t22 : (s.toList == [119, 104, 101, 110])
  case true =>
    have hr : resB (bl s) = true := by rw [← toList_bl]; simp only [resB, t0, t1, t2, t3, t4, t5, t6, t7, t8, t9, t10, t11, t12, t13, t14, t15, t16, t17, t18, t19, t20, t21, t22, Bool.false_or]
    rw [hr]
    clear hr
    go_enter Tryz.func61, Tryz.ntmps61
    go_wp2_with fail
    go_ret
    exact ⟨rfl, rfl⟩
  have hr : resB (bl s) = false := by rw [← toList_bl]; simp only [resB, t0, t1, t2, t3, t4, t5, t6, t7, t8, t9, t10, t11, t12, t13, t14, t15, t16, t17, t18, t19, t20, t21, t22, Bool.false_or]
  rw [hr]
  clear hr
  go_enter Tryz.func61, Tryz.ntmps61
  go_wp2_with fail
  go_ret
  exact ⟨rfl, rfl⟩
theorem name_any (s : ByteArray) (w : World) (hs : s.size ≤ 9223372036854775807) : Calls Tryz.prog 46 #[.string s] w (BoolSame (wordB (bl s) && !resB (bl s)) w) := by
  have c1 := Lib.hid (isWord_any s w hs)
  have c2 := Lib.hid (reserved_any s w)
  generalize wordB (bl s) = a at *
  generalize resB (bl s) = b at *
  cases a <;> cases b
  all_goals
    go_enter Tryz.func46, Tryz.ntmps46
    go_wp2_with (first | (go_at_call 65; refine c1.out.mono ?_; rintro e w' ⟨rfl, rfl⟩) | (go_at_call 66; refine c2.out.mono ?_; rintro e w' ⟨rfl, rfl⟩))
    go_ret
    exact ⟨rfl, rfl⟩
end Go.Proofs.YtdehldcgakdobaaGreatDoor.Lx
