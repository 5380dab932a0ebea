/-
  The walk of LaneThree: it answers true, for all rows of numbers.
-/
import Derived.Test.YtaekdfjecokpmaaLaw70
import Derived.Test.YtaekdfjecokpmaaLa2
namespace Go.Proofs.Ytaekdfjecokpmaa
open Go.RowKit Plait
set_option maxRecDepth 100000
set_option linter.unusedVariables false

set_option maxHeartbeats 1600000 in
theorem laneThree_walk (a0 : Option Addr) (z0 : List Int) (cap0 : Nat) (a1 : Option Addr) (z1 : List Int) (cap1 : Nat) (a2 : Option Addr) (z2 : List Int) (cap2 : Nat) (a3 : Option Addr) (z3 : List Int) (cap3 : Nat) (w : World) (r0 : Row w a0 z0) (r1 : Row w a1 z1) (r2 : Row w a2 z2) (r3 : Row w a3 z3) :
    Calls Try.prog 6 #[.slice a0 z0.length cap0, .slice a1 z1.length cap1, .slice a2 z2.length cap2, .slice a3 z3.length cap3] w fun e w' => e = .returned (.bool true) ∧ Below w.heap.size w w' := by
  have hB : Below w.heap.size w w := Below.refl _ _
  have l0 := textL_length z0
  have l1 := textL_length z1
  have l2 := textL_length z2
  have l3 := textL_length z3
  go_enter Try.func6, Try.ntmps6
  go_wp2_with fail
  refine (known7_any _).mono ?_
  rintro e wn ⟨rfl, hb⟩
  replace hB := hB.trans (hb.mono hB.size)
  clear hb
  go_wp2_with fail
  refine (text_any a3 z3 cap3 _ (r3.later hB)).mono ?_
  rintro e wn ⟨rfl, hb⟩
  replace hB := hB.trans (hb.mono hB.size)
  clear hb
  go_wp2_with fail
  refine (text_any a0 z0 cap0 _ (r0.later hB)).mono ?_
  rintro e wn ⟨rfl, hb⟩
  replace hB := hB.trans (hb.mono hB.size)
  clear hb
  go_wp2_with fail
  refine (text_any a1 z1 cap1 _ (r1.later hB)).mono ?_
  rintro e wn ⟨rfl, hb⟩
  replace hB := hB.trans (hb.mono hB.size)
  clear hb
  go_wp2_with fail
  refine (text_any a2 z2 cap2 _ (r2.later hB)).mono ?_
  rintro e wn ⟨rfl, hb⟩
  replace hB := hB.trans (hb.mono hB.size)
  clear hb
  clear r0 r1 r2 r3
  generalize textL z0 = N at *
  generalize textL z1 = M at *
  generalize textL z2 = K at *
  generalize textL z3 = P at *
  have lA : (P ++ N).length ≤ 160 := by simp; omega
  have lB : (P ++ M).length ≤ 160 := by simp; omega
  have lC : (P ++ K).length ≤ 160 := by simp; omega
  go_upto_region 5 with fail
  generalize P ++ N = A at *
  generalize P ++ M = B at *
  generalize P ++ K = C at *
  have f1 := out3 A B C
  have f2 := out3r A B C
  have f3 := out3t A B C
  have lAB := outL_len true A B
  have lBC := outL_len true B C
  have lCA := outL_len true C A
  have lX := outL_len true (outL true A B) C
  have cA := slen_le A
  have cB := slen_le B
  have cC := slen_le C
  have mA := clean_len A
  have mB := clean_len B
  have mC := clean_len C
  have mBC : (common (clean B) (clean C)).length ≤ 160 := by rw [← outL_true]; omega
  rw [f1] at lX
  generalize hAB : outL true A B = AB at *
  generalize hBC : outL true B C = BC at *
  generalize hCA : outL true C A = CA at *
  generalize hX : common (clean A) (common (clean B) (clean C)) = X at *
  have HAB := Lib.hid hAB
  have HBC := Lib.hid hBC
  have HCA := Lib.hid hCA
  have HX := Lib.hid hX
  have F1 := Lib.hid f1
  have F2 := Lib.hid f2
  have F3 := Lib.hid f3
  clear hAB hBC hCA hX f1 f2 f3
  go_wp2_with fail
  refine (lOut_any _ _ _ _ (by omega) (by omega)).mono ?_
  rintro e wn ⟨rfl, hb⟩
  replace hB := hB.trans (hb.mono hB.size)
  clear hb
  rw [HAB.out]
  go_wp2_with fail
  refine (lOut_any _ _ _ _ (by omega) (by omega)).mono ?_
  rintro e wn ⟨rfl, hb⟩
  replace hB := hB.trans (hb.mono hB.size)
  clear hb
  rw [F1.out]
  go_wp2_with fail
  refine (lOut_any _ _ _ _ (by omega) (by omega)).mono ?_
  rintro e wn ⟨rfl, hb⟩
  replace hB := hB.trans (hb.mono hB.size)
  clear hb
  rw [HBC.out]
  go_wp2_with fail
  refine (lOut_any _ _ _ _ (by omega) (by omega)).mono ?_
  rintro e wn ⟨rfl, hb⟩
  replace hB := hB.trans (hb.mono hB.size)
  clear hb
  rw [F2.out]
  go_wp2_with fail
  refine (lOut_any _ _ _ _ (by omega) (by omega)).mono ?_
  rintro e wn ⟨rfl, hb⟩
  replace hB := hB.trans (hb.mono hB.size)
  clear hb
  rw [HCA.out]
  go_wp2_with fail
  refine (lOut_any _ _ _ _ (by omega) (by omega)).mono ?_
  rintro e wn ⟨rfl, hb⟩
  replace hB := hB.trans (hb.mono hB.size)
  clear hb
  rw [F3.out]
  go_wp2_with fail
  refine (rclean_any _ _ (by omega)).mono ?_
  rintro e wl ⟨rfl, rfl⟩
  go_wp2_with fail
  refine (rclean_any _ _ (by omega)).mono ?_
  rintro e wl ⟨rfl, rfl⟩
  go_wp2_with fail
  refine (rclean_any _ _ (by omega)).mono ?_
  rintro e wl ⟨rfl, rfl⟩
  go_wp2_with fail
  refine (rcommon_any _ _ _ (by omega) (by omega)).mono ?_
  rintro e wn ⟨rfl, hb⟩
  replace hB := hB.trans (hb.mono hB.size)
  clear hb
  go_wp2_with fail
  refine (rcommon_any _ _ _ (by omega) (by omega)).mono ?_
  rintro e wn ⟨rfl, hb⟩
  replace hB := hB.trans (hb.mono hB.size)
  clear hb
  rw [HX.out]
  go_wp2
  go_ret
  exact ⟨rfl, hB⟩

end Go.Proofs.Ytaekdfjecokpmaa
