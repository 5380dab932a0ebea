/-
  The walk of CrcSums: it answers true, for all rows of numbers.
-/
import Derived.Test.YtholemhfbafipaaLCrcOne
namespace Go.Proofs.Ytholemhfbafipaa
open Go.RowKit Plait
set_option linter.unusedVariables false

set_option maxHeartbeats 1600000 in
theorem crcSums_walk (a0 : Option Addr) (z0 : List Int) (cap0 : Nat) (w : World) (r0 : Row w a0 z0) :
    Calls Try.prog 3 #[.slice a0 z0.length cap0] w fun e w' => e = .returned (.bool true) ∧ Below w.heap.size w w' := by
  have hB : Below w.heap.size w w := Below.refl _ _
  have l0 := bitsT_length z0
  have al := bitsT_all z0
  go_enter Try.func3, Try.ntmps3
  go_wp2_with fail
  refine (known2_any _).mono ?_
  rintro e wn ⟨rfl, hb⟩
  replace hB := hB.trans (hb.mono hB.size)
  clear hb
  go_wp2_with fail
  refine (bitsT_any a0 z0 cap0 _ (r0.later hB)).mono ?_
  rintro e wn ⟨rfl, hb⟩
  replace hB := hB.trans (hb.mono hB.size)
  clear hb
  clear r0
  generalize bitsT z0 = b at *
  have HA := Lib.hid al
  clear al
  have hSl2 : (wrapL b).length ≤ 300 := by rw [wrapL_length]; omega
  have F1 := Lib.hid (openR_of _ _ _ (open_wrap b HA.out))
  go_wp2_with fail
  refine (cwrap_any b _ (by omega) HA.out).mono ?_
  rintro e wn ⟨rfl, hb⟩
  replace hB := hB.trans (hb.mono hB.size)
  clear hb
  go_wp2_with fail
  refine (copen_any _ _ (by omega)).mono ?_
  rintro e wn ⟨rfl, hb⟩
  replace hB := hB.trans (hb.mono hB.size)
  clear hb
  rw [F1.out]
  go_wp2_with fail
  refine (csum_any b _ (by omega) HA.out).mono ?_
  rintro e wn ⟨rfl, hb⟩
  replace hB := hB.trans (hb.mono hB.size)
  clear hb
  go_wp2_with fail
  refine (rsum_any b _ (by omega)).mono ?_
  rintro e wl ⟨rfl, rfl⟩
  go_wp2_with fail
  refine (rwrap_any b _ (by omega)).mono ?_
  rintro e wl ⟨rfl, rfl⟩
  go_wp2
  go_ret
  exact ⟨rfl, hB⟩

end Go.Proofs.Ytholemhfbafipaa
