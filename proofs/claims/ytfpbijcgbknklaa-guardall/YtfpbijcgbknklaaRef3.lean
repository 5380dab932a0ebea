/-
  Contracts of the reference's Bits and Num.
-/
import Derived.Test.YtfpbijcgbknklaaRef2
namespace Go.Proofs.Ytfpbijcgbknklaa
open Go.RowKit Plait
set_option maxRecDepth 100000
set_option linter.unusedVariables false

theorem bitsL_take (n : Int) (size k : Nat) (h : k < size) : (bitsL n size).take (k + 1) = (bitsL n size).take k ++ [bitAt n size k] := by
  rw [List.take_succ_eq_append_getElem (by rw [bitsL_length]; exact h), bitsL_get]

/-- The reference's loop of Bits: the first k bits are there. -/
def RBitsAt (n : Int) (size : Nat) (s i : Value) : Prop :=
  ∃ k : Nat, k ≤ size ∧ i = .int .i64 ((size : Int) - 1 - k) ∧ s = .string ⟨((bitsL n size).take k).toArray⟩

/-- The reference's loop of Num. -/
def RNumAt (l : List UInt8) (n i : Value) : Prop :=
  ∃ k : Nat, k ≤ l.length ∧ i = .int .i64 k ∧ (∀ c ∈ l.take k, bitB c = true) ∧ n = .int .i64 (numV (l.take k))

end Go.Proofs.Ytfpbijcgbknklaa
