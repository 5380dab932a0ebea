/-
  The walk of SymNums: it answers true, for all numbers.
-/
import Derived.Test.YtopjhhpbjpfbfaaLaw3
namespace Go.Proofs.Ytopjhhpbjpfbfaa
open Go.RowKit Plait
set_option linter.unusedVariables false

theorem numR_zero_bits (x : Int) (k : Nat) (hk : k < 61) (h0 : 0 ≤ x) (h1 : x < 2 ^ (1 + k)) : numR (48 :: bitsI x (1 + (k : Int))) = .tuple #[.int .i64 x, .bool true] := by
  rw [bitsI_eq x k (by omega), numR_yes _ (by simp) (by rw [List.length_cons, bitsL_length]; omega) (by
    intro c hc
    rcases List.mem_cons.1 hc with rfl | hc
    · decide
    · exact bits_all _ _ c hc), foldl_zero, numV_bits, Int.emod_eq_of_lt h0 h1]

set_option maxHeartbeats 800000 in
theorem symNums_walk (a b size : Int) (w : World) (ha1 : -9223372036854775808 ≤ a) (ha2 : a ≤ 9223372036854775807) (hb1 : -9223372036854775808 ≤ b) (hb2 : b ≤ 9223372036854775807) (hs1 : -9223372036854775808 ≤ size) (hs2 : size ≤ 9223372036854775807) :
    Calls Try.prog 9 #[.int .i64 a, .int .i64 b, .int .i64 size] w fun e w' => e = .returned (.bool true) ∧ Below w.heap.size w w' := by
  go_enter Try.func9, Try.ntmps9
  go_wp2_with fail
  refine (known_any _).mono ?_
  rintro e w1 ⟨rfl, hw1⟩
  go_wp2_with fail
  refine (within_any _ _ _ (by omega) (by omega)).mono ?_
  rintro e w' ⟨rfl, rfl⟩
  obtain ⟨k, hk⟩ : ∃ k : Nat, size % 61 = k := ⟨(size % 61).toNat, by omega⟩
  have hk2 : k < 61 := by omega
  rw [hk]
  clear hk
  have hp0 : (0 : Int) < 2 ^ (1 + k) := Int.pow_pos (by decide)
  have x0 := Int.emod_nonneg a (show (2 : Int) ^ (1 + k) ≠ 0 by omega)
  have x1 := Int.emod_lt_of_pos a hp0
  have y0 := Int.emod_nonneg b (show (2 : Int) ^ (1 + k) ≠ 0 by omega)
  have y1 := Int.emod_lt_of_pos b hp0
  have ea := Lib.hid (mask_eq a k (by omega))
  have eb := Lib.hid (mask_eq b k (by omega))
  clear hp0 ha1 ha2 hb1 hb2 hs1 hs2
  go_wp2_with fail
  rw [ea.out, eb.out]
  clear ea eb
  generalize a % 2 ^ (1 + k) = x at *
  generalize b % 2 ^ (1 + k) = y at *
  generalize wrap64 (wrap64 (2 ^ (1 + k)) - 1) = m at *
  generalize wrap64 (2 ^ (1 + k)) = m' at *
  have hless := bits_less x y (1 + k) x0 x1 y0 y1
  rw [← bitsI_eq x k (by omega), ← bitsI_eq y k (by omega)] at hless
  have HL := Lib.hid hless
  have HX := Lib.hid (numR_zero_bits x k hk2 x0 x1)
  have HY := Lib.hid (numR_bits y k (by omega) y0 y1)
  have hlx : (bitsI x (1 + (k : Int))).length ≤ 62 := by rw [bitsI_eq x k (by omega), bitsL_length]; omega
  have hly : (bitsI y (1 + (k : Int))).length ≤ 62 := by rw [bitsI_eq y k (by omega), bitsL_length]; omega
  clear hless x0 x1 y0 y1
  refine (bits_any _ _ _).mono ?_
  rintro e w2 ⟨rfl, hw2⟩
  go_wp2_with fail
  refine (bits_any _ _ _).mono ?_
  rintro e w3 ⟨rfl, hw3⟩
  generalize bitsI x (1 + (k : Int)) = S at *
  generalize bitsI y (1 + (k : Int)) = T at *
  go_wp2_with fail
  refine (num_any (48 :: S) _ (by simp; omega)).mono ?_
  rintro e w4 ⟨rfl, hw4⟩
  rw [HX.out]
  go_wp2_with fail
  refine (num_any T _ (by omega)).mono ?_
  rintro e w5 ⟨rfl, hw5⟩
  rw [HY.out]
  have hl1 := HL.out.1
  have hl2 := HL.out.2
  go_wp2
  go_ret
  refine ⟨rfl, ?_⟩
  have b2 := hw1.trans (hw2.mono hw1.size)
  have b3 := b2.trans (hw3.mono b2.size)
  have b4 := b3.trans (hw4.mono b3.size)
  exact b4.trans (hw5.mono b4.size)

end Go.Proofs.Ytopjhhpbjpfbfaa
