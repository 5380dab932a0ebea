/-
  The walk of SymKnown: it answers true, for all numbers.
-/
import Derived.Test.YtopjhhpbjpfbfaaLaw2
namespace Go.Proofs.Ytopjhhpbjpfbfaa
open Go.RowKit Plait
set_option linter.unusedVariables false

theorem true_cell (j : Nat) (h : j < 12) : [Value.bool true, Value.bool true, Value.bool true, Value.bool true, Value.bool true, Value.bool true, Value.bool true, Value.bool true, Value.bool true, Value.bool true, Value.bool true, Value.bool true][j]'(by simpa using h) = .bool true := by
  have h' : j = 0 ∨ j = 1 ∨ j = 2 ∨ j = 3 ∨ j = 4 ∨ j = 5 ∨ j = 6 ∨ j = 7 ∨ j = 8 ∨ j = 9 ∨ j = 10 ∨ j = 11 := by omega
  rcases h' with rfl | rfl | rfl | rfl | rfl | rfl | rfl | rfl | rfl | rfl | rfl | rfl <;> rfl

theorem bits62_length : (bitsI 1 62).length = 62 := by decide

set_option maxHeartbeats 4000000 in
set_option maxRecDepth 100000 in
theorem symKnown_walk (which : Int) (w : World) (h1 : -9223372036854775808 ≤ which) (h2 : which ≤ 9223372036854775807) :
    Calls Try.prog 8 #[.int .i64 which] w fun e w' => e = .returned (.bool true) ∧ Below w.heap.size w w' := by
  have hB : Below w.heap.size w w := Below.refl _ _
  have c1 : clean [] = [] := by decide
  have c2 : clean [48, 49, 35, 49, 48] = [48, 49, 35] := by decide
  have c3 : clean [35] = [35] := by decide
  have c4 : clean [46, 48] = [] := by decide
  have c5 : clean [48, 195, 169] = [48] := by decide
  have m1 : common [48, 49, 49, 48] [48, 49, 48, 49] = [48, 49] := by decide
  have m2 : common [] [49] = [] := by decide
  have m3 : common [49, 35] [49, 35] = [49, 35] := by decide
  have f1 : frontB [] [120] = true := by decide
  have f2 : frontB [97, 98] [97, 98] = true := by decide
  have f3 : frontB [97, 98] [97] = false := by decide
  have w1 : wholeB [48, 35] = true := by decide
  have w2 : wholeB [35] = true := by decide
  have w3 : wholeB [] = false := by decide
  have w4 : wholeB [48, 49] = false := by decide
  have w5 : wholeB [48, 35, 35] = false := by decide
  have w6 : wholeB [120, 35] = false := by decide
  have t1 : turn [48, 49, 35] 0 = [49, 49, 35] := by decide
  have t2 : turn [48, 49, 35] 1 = [48, 48, 35] := by decide
  have t3 : turn [48, 49, 35] 2 = [48, 49, 48] := by decide
  have t4 : turn [48, 49, 35] 3 = [48, 49, 35] := by decide
  have t5 : turn [120] 0 = [120] := by decide
  have t6 : turn [48] (-1) = [48] := by decide
  have b1 : bitsI 6 4 = [48, 49, 49, 48] := by decide
  have b2 : bitsI (-1) 3 = [49, 49, 49] := by decide
  have b3 : bitsI 16 4 = [48, 48, 48, 48] := by decide
  have b4 : bitsI 5 0 = [] := by decide
  have b5 : bitsI 5 63 = [] := by decide
  have b6 := bits62_length
  go_enter Try.func8, Try.ntmps8
  go_wp2_with (first
    | (go_at_call 11; refine (known_any _).mono ?_; rintro e wn ⟨rfl, hb⟩; replace hB := hB.trans (hb.mono hB.size); clear hb)
    | (go_at_call 13; refine (clean_any _ _ (by simp)).mono ?_; rintro e wn ⟨rfl, hb⟩; replace hB := hB.trans (hb.mono hB.size); clear hb)
    | (go_at_call 20; refine (common_any _ _ _ (by simp) (by simp)).mono ?_; rintro e wn ⟨rfl, hb⟩; replace hB := hB.trans (hb.mono hB.size); clear hb)
    | (go_at_call 22; refine (front_any _ _ _).mono ?_; rintro e wn ⟨rfl, rfl⟩)
    | (go_at_call 15; refine (whole_any _ _ (by simp)).mono ?_; rintro e wn ⟨rfl, hb⟩; replace hB := hB.trans (hb.mono hB.size); clear hb)
    | (go_at_call 17; refine (turn_any _ _ _ (by simp)).mono ?_; rintro e wn ⟨rfl, hb⟩; replace hB := hB.trans (hb.mono hB.size); clear hb)
    | (go_at_call 26; refine (bits_any _ _ _).mono ?_; rintro e wn ⟨rfl, hb⟩; replace hB := hB.trans (hb.mono hB.size); clear hb))
  obtain ⟨j, hj⟩ : ∃ j : Nat, which % 12 = j := ⟨(which % 12).toNat, by omega⟩
  have hj12 : j < 12 := by omega
  have hsg := true_cell j hj12
  refine (within_any _ _ _ (by omega) (by omega)).mono ?_
  rintro e wl ⟨rfl, rfl⟩
  rw [hj]
  clear hj
  go_wp2
  go_ret
  exact ⟨rfl, hB.alloc hB.size _⟩

end Go.Proofs.Ytopjhhpbjpfbfaa
