/-
  The walk of CrcTwo: it answers true, for all rows of numbers and places.
-/
import Derived.Test.YtholemhfbafipaaLCrcOne
namespace Go.Proofs.Ytholemhfbafipaa
open Go.RowKit Plait
set_option linter.unusedVariables false

set_option maxHeartbeats 1600000 in
theorem crcTwo_walk (a0 : Option Addr) (z0 : List Int) (cap0 : Nat) (i j : Int) (w : World) (r0 : Row w a0 z0) (hi1 : -9223372036854775808 ≤ i) (hi2 : i ≤ 9223372036854775807) (hj1 : -9223372036854775808 ≤ j) (hj2 : j ≤ 9223372036854775807) :
    Calls Try.prog 6 #[.slice a0 z0.length cap0, .int .i64 i, .int .i64 j] w fun e w' => e = .returned (.bool true) ∧ Below w.heap.size w w' := by
  have hB : Below w.heap.size w w := Below.refl _ _
  have l0 := bitsT_length z0
  have al := bitsT_all z0
  go_enter Try.func6, Try.ntmps6
  go_wp2_with fail
  refine (known2_any _).mono ?_
  rintro e wn ⟨rfl, hb⟩
  replace hB := hB.trans (hb.mono hB.size)
  clear hb
  go_wp2_with fail
  refine (bitsT_any a0 z0 cap0 _ (r0.later hB)).mono ?_
  rintro e wn ⟨rfl, hb⟩
  replace hB := hB.trans (hb.mono hB.size)
  clear hb
  clear r0
  generalize bitsT z0 = b at *
  have HA := Lib.hid al
  clear al
  go_wp2_with fail
  refine (rwrap_any b _ (by omega)).mono ?_
  rintro e wl ⟨rfl, rfl⟩
  obtain ⟨n, hn⟩ : ∃ n, n = b.length + 16 := ⟨_, rfl⟩
  have hSl : (wrapL b).length = n + 1 := by rw [wrapL_length]; omega
  have r1 : ((wrapL b).length : Int) - 1 = (n : Int) := by omega
  have hSl2 : (wrapL b).length ≤ 300 := by omega
  have hm0 := Int.emod_nonneg i (show (n : Int) ≠ 0 by omega)
  have hm1 := Int.emod_lt_of_pos i (show (0 : Int) < (n : Int) by omega)
  have hm2 := Int.emod_nonneg j (show (n : Int) ≠ 0 by omega)
  have hm3 := Int.emod_lt_of_pos j (show (0 : Int) < (n : Int) by omega)
  obtain ⟨k, hk⟩ : ∃ k : Nat, i % (n : Int) = k := ⟨(i % (n : Int)).toNat, by omega⟩
  obtain ⟨q, hq⟩ : ∃ q : Nat, j % (n : Int) = q := ⟨(j % (n : Int)).toNat, by omega⟩
  have F1 := Lib.hid (fun h => openR_of _ _ _ (two_refused b HA.out (by omega) k q (by omega) (by omega) h))
  have HK := Lib.hid hk
  have HQ := Lib.hid hq
  have hnp : 0 < n := by omega
  have hn300 : n ≤ 300 := by omega
  have hlt : (turn (wrapL b) (k : Int)).length ≤ 300 := by rw [turn_length]; exact hSl2
  have hlt2 : (turn (turn (wrapL b) (k : Int)) (q : Int)).length ≤ 300 := by rw [turn_length]; exact hlt
  clear hk hq hm0 hm1 hm2 hm3 hn hSl
  generalize wrapL b = S at *
  go_wp2_with fail
  refine (within2_any _ _ _ (by omega) (by omega)).mono ?_
  rintro e wl ⟨rfl, rfl⟩
  rw [HK.out]
  go_wp2_with fail
  refine (within2_any _ _ _ (by omega) (by omega)).mono ?_
  rintro e wl ⟨rfl, rfl⟩
  rw [HQ.out]
  by_cases hkq : k = q
  · have e1 : ((k : Int) == (q : Int)) = true := by rw [beq_iff_eq]; omega
    have e2 : (k == q) = true := by rw [beq_iff_eq]; exact hkq
    clear hkq
    go_wp2
    go_ret
    exact ⟨rfl, hB⟩
  have e1 : ((k : Int) == (q : Int)) = false := by rw [beq_eq_false_iff_ne]; omega
  have e2 : (k == q) = false := by rw [beq_eq_false_iff_ne]; exact hkq
  have F2 := Lib.hid (F1.out hkq)
  clear hkq F1
  go_wp2_with fail
  refine (rturn_any S _ _ (by omega)).mono ?_
  rintro e wn ⟨rfl, hb⟩
  replace hB := hB.trans (hb.mono hB.size)
  clear hb
  go_wp2_with fail
  refine (rturn_any _ _ _ (by omega)).mono ?_
  rintro e wn ⟨rfl, hb⟩
  replace hB := hB.trans (hb.mono hB.size)
  clear hb
  go_wp2_with fail
  refine (copen_any _ _ (by omega)).mono ?_
  rintro e wn ⟨rfl, hb⟩
  replace hB := hB.trans (hb.mono hB.size)
  clear hb
  rw [F2.out]
  go_wp2
  go_ret
  exact ⟨rfl, hB⟩

end Go.Proofs.Ytholemhfbafipaa
