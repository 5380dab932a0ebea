/-
  Contracts of sym.Bits and sym.Num: for every number, size and text; nothing that was in memory is changed.
-/
import Derived.Test.YtfpbijcgbknklaaSym4
namespace Go.Proofs.Ytfpbijcgbknklaa
open Go.RowKit Plait
set_option maxRecDepth 100000
set_option linter.unusedVariables false

/-- The loop of Bits: the row's first k places hold the first k bits. -/
def BitsAt (n : Int) (size : Nat) (w : World) (i : Value) (w' : World) : Prop :=
  ∃ (k : Nat) (A : Array Value), k ≤ size ∧ i = .int .i64 k ∧ w' = w.alloc (.cells A 5) ∧ A.size = size ∧ ∀ j, j < k → A[j]? = some (.int .u8 ((bitAt n size j).toNat : Int))

end Go.Proofs.Ytfpbijcgbknklaa
