/-
  The walk of CrcBurst: it answers true, for all rows of numbers, places and patterns.
-/
import Derived.Test.YtholemhfbafipaaLCrcOne
import Derived.Test.YtholemhfbafipaaCrc4
namespace Go.Proofs.Ytholemhfbafipaa
open Go.RowKit Plait
set_option linter.unusedVariables false

/-- The loop: the first i of the pattern's bits are turned. -/
def BurstAt (n k : Nat) (p : Int) (w : World) (s i : Value) (w' : World) : Prop :=
  ∃ (q : Nat) (W : List UInt8), q ≤ 16 ∧ i = .int .i64 q ∧ s = .string ⟨(W ++ [35]).toArray⟩ ∧ W.length = n ∧ allBits W ∧ sumB W = burst n k (lowBits p) q ∧ Below w.heap.size w w'

set_option maxHeartbeats 1600000 in
theorem crcBurst_walk (a0 : Option Addr) (z0 : List Int) (cap0 : Nat) (i j : Int) (w : World) (r0 : Row w a0 z0) (hi1 : -9223372036854775808 ≤ i) (hi2 : i ≤ 9223372036854775807) (hj1 : -9223372036854775808 ≤ j) (hj2 : j ≤ 9223372036854775807) :
    Calls Try.prog 8 #[.slice a0 z0.length cap0, .int .i64 i, .int .i64 j] w fun e w' => e = .returned (.bool true) ∧ Below w.heap.size w w' := by
  have hB : Below w.heap.size w w := Below.refl _ _
  have l0 := bitsT_length z0
  have al := bitsT_all z0
  go_enter Try.func8, Try.ntmps8
  go_wp2_with fail
  refine (known2_any _).mono ?_
  rintro e wn ⟨rfl, hb⟩
  replace hB := hB.trans (hb.mono hB.size)
  clear hb
  go_wp2_with fail
  refine (bitsT_any a0 z0 cap0 _ (r0.later hB)).mono ?_
  rintro e wn ⟨rfl, hb⟩
  replace hB := hB.trans (hb.mono hB.size)
  clear hb
  clear r0
  generalize bitsT z0 = b at *
  have HA := Lib.hid al
  clear al
  go_wp2_with fail
  refine (rwrap_any b _ (by omega)).mono ?_
  rintro e wl ⟨rfl, rfl⟩
  obtain ⟨n, hn⟩ : ∃ n, n = b.length + 16 := ⟨_, rfl⟩
  have hWl : (wrapB b).length = n := by rw [wrapB_length]; omega
  have HW := Lib.hid (wrapB_bits b HA.out)
  have HS := Lib.hid (wrapB_sum b)
  rw [wrapL_eq]
  generalize wrapB b = W0 at *
  have r1 : (((W0 ++ [35]).length : Nat) : Int) - 1 = (n : Int) := by rw [List.length_append]; simp; omega
  have r1' : ((W0.length : Nat) : Int) + 1 - 1 = (n : Int) := by omega
  obtain ⟨m, hm⟩ : ∃ m : Nat, (n : Int) - 15 = m := ⟨n - 15, by omega⟩
  have hm0 := Int.emod_nonneg i (show (m : Int) ≠ 0 by omega)
  have hm1 := Int.emod_lt_of_pos i (show (0 : Int) < (m : Int) by omega)
  obtain ⟨k, hk⟩ : ∃ k : Nat, i % (m : Int) = k := ⟨(i % (m : Int)).toNat, by omega⟩
  have hkn : k + 15 < n := by omega
  have hmp : 0 < m := by omega
  have hm300 : m ≤ 300 := by omega
  have hn300 : n ≤ 300 := by omega
  have HK := Lib.hid hk
  have HWl := Lib.hid hWl
  obtain ⟨p, hp⟩ : ∃ p : Int, p = 1 + j % 65535 := ⟨_, rfl⟩
  have hp0 : 0 < p := by omega
  have hp1 : p < 65536 := by omega
  have HP := Lib.hid hp
  have hW300 : W0.length ≤ 300 := by omega
  clear hk hp hm0 hm1 hn hWl
  go_wp2_with fail
  refine (within2_any _ _ _ (by omega) (by omega)).mono ?_
  rintro e wl ⟨rfl, rfl⟩
  rw [HK.out]
  go_wp2_with fail
  refine (within2_any _ _ _ (by omega) (by omega)).mono ?_
  rintro e wl ⟨rfl, rfl⟩
  have hp2 : 1 + j % 65535 = p := HP.out.symm
  go_wp2
  clear hp2
  go_loopw [7, 11] (fun s i w' => BurstAt n k p w s i w') (fun _ i _ => 16 - (intOf i).toNat)
  case atStart => exact ⟨0, W0, by omega, rfl, rfl, HWl.out, HW.out, by rw [HS.out, burst_zero], hB⟩
  case round =>
    obtain ⟨q, W, hq, rfl, rfl, hWn, hWa, hWs, hb⟩ := hrel
    clear hB
    have hB := hb
    clear hb
    have hWn2 : W.length ≤ 300 := by omega
    have HWn := Lib.hid hWn
    have HWa := Lib.hid hWa
    have HWs := Lib.hid hWs
    clear hWn hWa hWs
    by_cases h16 : q < 16
    · have d16 : decide ((q : Int) < 16) = true := by simp; omega
      have hand := and_one (p / 2 ^ q)
      have hkq : k + q < W.length := by have := HWn.out; omega
      have hlow : (lowBits p)[q]'(by rw [lowBits_length]; exact h16) = decide (p / 2 ^ q % 2 = 1) := lowBits_get _ _ _
      have HL := Lib.hid hlow
      clear hlow
      by_cases hbit : p / 2 ^ q % 2 = 1
      · have d1 : (p / 2 ^ q % 2 == 1) = true := by simpa using hbit
        have hT := burst_turn W HWa.out k q hkq (lowBits p) (by rw [lowBits_length]; exact h16) (by rw [HWn.out]; exact HWs.out) (by rw [HL.out]; simpa using hbit)
        rw [HWn.out] at hT
        have HT := Lib.hid hT
        have HA2 := Lib.hid (turn_allBits W HWa.out (k + q) hkq)
        have HTl := Lib.hid (turn_tail W (k + q) hkq)
        have hkq' : ((k + q : Nat) : Int) = (k : Int) + (q : Int) := by omega
        rw [hkq'] at hT HT HA2 HTl
        clear hT hbit hkq'
        go_wp2_with fail
        refine (rturn_any _ _ _ (by simp; omega)).mono ?_
        rintro e wn ⟨rfl, hb⟩
        replace hB := hB.trans (hb.mono hB.size)
        clear hb
        rw [HTl.out]
        go_wp2
        go_roundw
        case rel => exact ⟨q + 1, _, by omega, by go_num, rfl, by rw [turn_length]; exact HWn.out, HA2.out, HT.out, hB⟩
        case measure => simp [intOf]; omega
      · have d1 : (p / 2 ^ q % 2 == 1) = false := by simpa using hbit
        have hT := burst_stay W k q hkq (lowBits p) (by rw [lowBits_length]; exact h16) (by rw [HWn.out]; exact HWs.out) (by rw [HL.out]; simpa using hbit)
        rw [HWn.out] at hT
        have HT := Lib.hid hT
        clear hT hbit
        go_wp2
        go_roundw
        case rel => exact ⟨q + 1, W, by omega, by go_num, rfl, HWn.out, HWa.out, HT.out, hB⟩
        case measure => simp [intOf]; omega
    · have d16 : decide ((q : Int) < 16) = false := by simp; omega
      have hne : sumB W ≠ 0#16 := by
        rw [HWs.out, show q = 16 by omega]
        exact burst_found n k _ (lowBits_length p) (lowBits_some p hp0 hp1)
      have hlen16 : 16 ≤ W.length := by have := HWn.out; omega
      have F := Lib.hid (openR_of _ _ _ (open_refused W HWa.out hlen16 hne))
      clear hne
      go_wp2_with fail
      refine (copen_any _ _ (by simp; omega)).mono ?_
      rintro e wn ⟨rfl, hb⟩
      replace hB := hB.trans (hb.mono hB.size)
      clear hb
      rw [F.out]
      go_wp2
      go_ret
      exact ⟨rfl, hB⟩

end Go.Proofs.Ytholemhfbafipaa
