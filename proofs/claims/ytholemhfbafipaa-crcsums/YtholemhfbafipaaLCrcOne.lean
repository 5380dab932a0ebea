/-
  The walk of CrcOne: it answers true, for all rows of numbers and places.
-/
import Derived.Test.YtholemhfbafipaaLaw20
import Derived.Test.YtholemhfbafipaaCrc3
namespace Go.Proofs.Ytholemhfbafipaa
open Go.RowKit Plait
set_option linter.unusedVariables false

theorem openR_of (l x : List UInt8) (e : Int) (h : openP l = (x, e)) : openR l = .tuple #[.string ⟨x.toArray⟩, .int .i64 e] := by
  rw [openR, h]

theorem sign4_cell (j : Nat) (h : j < 4) : ∃ c : UInt8, [Value.string ⟨#[48]⟩, Value.string ⟨#[49]⟩, Value.string ⟨#[35]⟩, Value.string ⟨#[120]⟩][j]'(by simpa using h) = .string ⟨#[c]⟩ := by
  have h' : j = 0 ∨ j = 1 ∨ j = 2 ∨ j = 3 := by omega
  rcases h' with rfl | rfl | rfl | rfl <;> exact ⟨_, rfl⟩

set_option maxHeartbeats 1600000 in
theorem crcOne_walk (a0 : Option Addr) (z0 : List Int) (cap0 : Nat) (i j : Int) (w : World) (r0 : Row w a0 z0) (hi1 : -9223372036854775808 ≤ i) (hi2 : i ≤ 9223372036854775807) (hj1 : -9223372036854775808 ≤ j) (hj2 : j ≤ 9223372036854775807) :
    Calls Try.prog 5 #[.slice a0 z0.length cap0, .int .i64 i, .int .i64 j] w fun e w' => e = .returned (.bool true) ∧ Below w.heap.size w w' := by
  have hB : Below w.heap.size w w := Below.refl _ _
  have l0 := bitsT_length z0
  have al := bitsT_all z0
  go_enter Try.func5, Try.ntmps5
  go_wp2_with fail
  refine (known2_any _).mono ?_
  rintro e wn ⟨rfl, hb⟩
  replace hB := hB.trans (hb.mono hB.size)
  clear hb
  go_wp2_with fail
  refine (bitsT_any a0 z0 cap0 _ (r0.later hB)).mono ?_
  rintro e wn ⟨rfl, hb⟩
  replace hB := hB.trans (hb.mono hB.size)
  clear hb r0
  generalize bitsT z0 = b at *
  have HA := Lib.hid al
  clear al
  go_wp2_with fail
  refine (rwrap_any b _ (by omega)).mono ?_
  rintro e wl ⟨rfl, rfl⟩
  have HW := Lib.hid (wrapL_length b)
  obtain ⟨n, hn⟩ : ∃ n, n = b.length + 16 := ⟨_, rfl⟩
  have hSl : (wrapL b).length = n + 1 := by rw [wrapL_length]; omega
  have r1 : ((wrapL b).length : Int) - 1 = (n : Int) := by omega
  have hSl2 : (wrapL b).length ≤ 300 := by omega
  have hm0 := Int.emod_nonneg i (show (n : Int) ≠ 0 by omega)
  have hm1 := Int.emod_lt_of_pos i (show (0 : Int) < (n : Int) by omega)
  obtain ⟨k, hk⟩ : ∃ k : Nat, i % (n : Int) = k := ⟨(i % (n : Int)).toNat, by omega⟩
  have F1 := Lib.hid (openR_of _ _ _ (one_refused b HA.out k (by omega)))
  have F2 := Lib.hid (show openR ((wrapL b).take n) = .tuple #[.string ⟨#[]⟩, .int .i64 4] by
    rw [wrapL_eq, List.take_append_of_le_length (by rw [wrapB_length]; omega), List.take_of_length_le (by rw [wrapB_length]; omega)]
    exact openR_of _ _ _ (tail_gone b HA.out))
  have F3 := Lib.hid (fun c => openR_of _ _ _ (more_behind b HA.out c))
  have HK := Lib.hid hk
  have hnb : n ≤ (wrapL b).length := by omega
  have hnp : 0 < n := by omega
  have hn300 : n ≤ 300 := by omega
  have hlt : (turn (wrapL b) (k : Int)).length ≤ 300 := by rw [turn_length]; exact hSl2
  have hln : ((wrapL b).take n).length ≤ 300 := by rw [List.length_take]; omega
  clear hk hm0 hm1 hn hSl HW
  generalize wrapL b = S at *
  go_wp2_with fail
  refine (within2_any _ _ _ (by omega) (by omega)).mono ?_
  rintro e wl ⟨rfl, rfl⟩
  rw [HK.out]
  go_wp2_with fail
  refine (rturn_any S _ _ (by omega)).mono ?_
  rintro e wn ⟨rfl, hb⟩
  replace hB := hB.trans (hb.mono hB.size)
  clear hb
  go_wp2_with fail
  refine (copen_any _ _ (by omega)).mono ?_
  rintro e wn ⟨rfl, hb⟩
  replace hB := hB.trans (hb.mono hB.size)
  clear hb
  rw [F1.out]
  go_wp2_with fail
  refine (copen_any _ _ (by omega)).mono ?_
  rintro e wn ⟨rfl, hb⟩
  replace hB := hB.trans (hb.mono hB.size)
  clear hb
  rw [F2.out]
  obtain ⟨q, hq⟩ : ∃ q : Nat, j % 4 = q := ⟨(j % 4).toNat, by omega⟩
  have hq4 : q < 4 := by omega
  obtain ⟨c, hsg⟩ := sign4_cell q hq4
  have hcl : (S ++ [c]).length ≤ 301 := by simp; omega
  go_wp2_with fail
  refine (within2_any _ _ _ (by omega) (by omega)).mono ?_
  rintro e wl ⟨rfl, rfl⟩
  rw [hq]
  clear hq
  go_wp2_with fail
  refine (copen_any _ _ (by omega)).mono ?_
  rintro e wl ⟨rfl, hb⟩
  rw [F3.out]
  go_wp2
  go_ret
  have hB2 := hB.alloc hB.size (.cells #[Value.string ⟨#[48]⟩, Value.string ⟨#[49]⟩, Value.string ⟨#[35]⟩, Value.string ⟨#[120]⟩] 9)
  exact ⟨rfl, hB2.trans (hb.mono hB2.size)⟩

end Go.Proofs.Ytholemhfbafipaa
