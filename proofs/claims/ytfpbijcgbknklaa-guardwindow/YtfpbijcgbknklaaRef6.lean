/-
  Contracts of plaitingref3, second part: Check, a slot's owners, its voters.
-/
import Derived.Test.YtfpbijcgbknklaaRef5
namespace Go.Proofs.Ytfpbijcgbknklaa
open Go.RowKit Plait
set_option maxRecDepth 100000
set_option linter.unusedVariables false

/-- The loop over the pairs. -/
def RPairsAt (bx : Array Value) (c : Cf) (w : World) (i : Value) (w' : World) : Prop :=
  ∃ k : Nat, k ≤ c.P.length ∧ i = .int .i64 k ∧ Below w.heap.size w w' ∧ Blk w' w.heap.size 24 bx ∧ ∀ z ∈ c.P.take k, pairB c z = true

theorem pairAt_neg (c : Cf) (s : Int) (h : s < 0 ∨ c.N + c.P.length ≤ s) (hn : 0 ≤ c.N) : pairAt c s = -1 := by
  unfold pairAt; rw [if_neg (by omega)]

end Go.Proofs.Ytfpbijcgbknklaa
