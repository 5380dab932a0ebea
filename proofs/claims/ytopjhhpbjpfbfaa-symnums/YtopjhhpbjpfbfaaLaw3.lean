/-
  Small facts that the laws on bits use.
-/
import Derived.Test.YtopjhhpbjpfbfaaLaw2
import Derived.Test.YtopjhhpbjpfbfaaMath2
namespace Go.Proofs.Ytopjhhpbjpfbfaa
open Go.RowKit Plait
set_option linter.unusedVariables false

theorem mask_eq (a : Int) (k : Nat) (hk : k < 62) : bits .and .i64 a (wrap64 (wrap64 (2 ^ (1 + k)) - 1)) = a % 2 ^ (1 + k) := by
  have hp : (2 : Int) ^ (1 + k) ≤ 2 ^ 62 := by
    have : (2 : Nat) ^ (1 + k) ≤ 2 ^ 62 := Nat.pow_le_pow_right (by decide) (by omega)
    exact_mod_cast this
  have hp0 : (0 : Int) < 2 ^ (1 + k) := Int.pow_pos (by decide)
  have h61 : (2 : Int) ^ 62 = 4611686018427387904 := by decide
  have e : wrap64 (wrap64 (2 ^ (1 + k)) - 1) = 2 ^ (1 + k) - 1 := by
    unfold wrap64
    rw [h61] at hp
    generalize (2 : Int) ^ (1 + k) = p at *
    omega
  rw [e, and_mask a (1 + k) (by omega)]

theorem bitsI_eq (x : Int) (k : Nat) (hk : k < 62) : bitsI x (1 + (k : Int)) = bitsL x (1 + k) := by
  unfold bitsI
  rw [if_pos (by omega)]
  congr 1

theorem numR_bits (x : Int) (k : Nat) (hk : k < 62) (h0 : 0 ≤ x) (h1 : x < 2 ^ (1 + k)) : numR (bitsI x (1 + (k : Int))) = .tuple #[.int .i64 x, .bool true] := by
  rw [bitsI_eq x k hk, numR_yes _ (by rw [bitsL_length]; omega) (by rw [bitsL_length]; omega) (bits_all _ _), numV_bits, Int.emod_eq_of_lt h0 h1]

theorem numR_bits_mod (x : Int) (k : Nat) (hk : k < 62) : numR (bitsI x (1 + (k : Int))) = .tuple #[.int .i64 (x % 2 ^ (1 + k)), .bool true] := by
  rw [bitsI_eq x k hk, numR_yes _ (by rw [bitsL_length]; omega) (by rw [bitsL_length]; omega) (bits_all _ _), numV_bits]

end Go.Proofs.Ytopjhhpbjpfbfaa
