/-
  The walk of LaneFronts: it answers true, for all rows of numbers.
-/
import Derived.Test.YtaekdfjecokpmaaLaw70
import Derived.Test.YtaekdfjecokpmaaLa2
import Derived.Test.YtaekdfjecokpmaaRef2
namespace Go.Proofs.Ytaekdfjecokpmaa
open Go.RowKit Plait
set_option maxRecDepth 100000
set_option linter.unusedVariables false

set_option maxHeartbeats 1600000 in
theorem laneFronts_walk (a0 : Option Addr) (z0 : List Int) (cap0 : Nat) (a1 : Option Addr) (z1 : List Int) (cap1 : Nat) (a2 : Option Addr) (z2 : List Int) (cap2 : Nat) (w : World) (r0 : Row w a0 z0) (r1 : Row w a1 z1) (r2 : Row w a2 z2) :
    Calls Try.prog 5 #[.slice a0 z0.length cap0, .slice a1 z1.length cap1, .slice a2 z2.length cap2] w fun e w' => e = .returned (.bool true) ∧ Below w.heap.size w w' := by
  have hB : Below w.heap.size w w := Below.refl _ _
  have l0 := textL_length z0
  have l1 := textL_length z1
  have l2 := textL_length z2
  go_enter Try.func5, Try.ntmps5
  go_wp2_with fail
  refine (known7_any _).mono ?_
  rintro e wn ⟨rfl, hb⟩
  replace hB := hB.trans (hb.mono hB.size)
  clear hb
  go_wp2_with fail
  refine (text_any a2 z2 cap2 _ (r2.later hB)).mono ?_
  rintro e wn ⟨rfl, hb⟩
  replace hB := hB.trans (hb.mono hB.size)
  clear hb
  go_wp2_with fail
  refine (text_any a0 z0 cap0 _ (r0.later hB)).mono ?_
  rintro e wn ⟨rfl, hb⟩
  replace hB := hB.trans (hb.mono hB.size)
  clear hb
  go_wp2_with fail
  refine (text_any a1 z1 cap1 _ (r1.later hB)).mono ?_
  rintro e wn ⟨rfl, hb⟩
  replace hB := hB.trans (hb.mono hB.size)
  clear hb
  clear r0 r1 r2
  generalize textL z0 = N at *
  generalize textL z1 = M at *
  generalize textL z2 = K at *
  have lA : (K ++ N).length ≤ 160 := by simp; omega
  have lB : (K ++ M).length ≤ 160 := by simp; omega
  go_upto_region 5 with fail
  generalize K ++ N = A at *
  generalize K ++ M = B at *
  go_wp2_with fail
  refine (lOut_any true A B _ (by omega) (by omega)).mono ?_
  rintro e wn ⟨rfl, hb⟩
  replace hB := hB.trans (hb.mono hB.size)
  clear hb
  have f1 := out_front A B
  have f2 := out_front2 A B
  have f3 := out_symm A B
  have f4 := out_again2 A B
  have f5 := out_again A B
  have f6 := out_direct A B
  have f7 := out_self A
  have f8 := out_front3 A B
  have lS := outL_len true A B
  have lD := outL_len false A B
  generalize outL true A B = S at *
  generalize hD : outL false A B = D at *
  go_wp2_with fail
  refine (rfront_any _ _ _ (by omega) (by omega)).mono ?_
  rintro e wl ⟨rfl, rfl⟩
  rw [f1]
  go_wp2_with fail
  refine (rfront_any _ _ _ (by omega) (by omega)).mono ?_
  rintro e wl ⟨rfl, rfl⟩
  rw [f2]
  go_wp2_with fail
  refine (lOut_any _ _ _ _ (by omega) (by omega)).mono ?_
  rintro e wn ⟨rfl, hb⟩
  replace hB := hB.trans (hb.mono hB.size)
  clear hb
  rw [f3]
  go_wp2_with fail
  refine (lOut_any _ _ _ _ (by omega) (by omega)).mono ?_
  rintro e wn ⟨rfl, hb⟩
  replace hB := hB.trans (hb.mono hB.size)
  clear hb
  rw [f4]
  go_wp2_with fail
  refine (lOut_any _ _ _ _ (by omega) (by omega)).mono ?_
  rintro e wn ⟨rfl, hb⟩
  replace hB := hB.trans (hb.mono hB.size)
  clear hb
  rw [f5]
  go_wp2_with fail
  refine (lOut_any _ _ _ _ (by omega) (by omega)).mono ?_
  rintro e wn ⟨rfl, hb⟩
  replace hB := hB.trans (hb.mono hB.size)
  clear hb
  rw [f6]
  go_wp2_with fail
  refine (lOut_any _ _ _ _ (by omega) (by omega)).mono ?_
  rintro e wn ⟨rfl, hb⟩
  replace hB := hB.trans (hb.mono hB.size)
  clear hb
  rw [f7]
  go_wp2_with fail
  refine (rclean_any _ _ (by omega)).mono ?_
  rintro e wl ⟨rfl, rfl⟩
  go_wp2_with fail
  refine (lOut_any _ _ _ _ (by omega) (by omega)).mono ?_
  rintro e wn ⟨rfl, hb⟩
  replace hB := hB.trans (hb.mono hB.size)
  clear hb
  rw [hD]
  go_wp2_with fail
  refine (rfront_any _ _ _ (by omega) (by omega)).mono ?_
  rintro e wl ⟨rfl, rfl⟩
  rw [f8]
  go_wp2
  go_ret
  exact ⟨rfl, hB⟩

end Go.Proofs.Ytaekdfjecokpmaa
