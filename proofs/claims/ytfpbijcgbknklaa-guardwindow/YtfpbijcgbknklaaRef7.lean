/-
  Contracts of plaitingref3, third part: a slot's voters.
-/
import Derived.Test.YtfpbijcgbknklaaRef6
namespace Go.Proofs.Ytfpbijcgbknklaa
open Go.RowKit Plait
set_option maxRecDepth 100000
set_option linter.unusedVariables false

/-- The loop that gathers the voters: wn is the world at its start. -/
def RVoteAt (c : Cf) (s : Int) (wn : World) (v i : Value) (w' : World) : Prop :=
  ∃ k : Nat, (k : Int) ≤ c.N ∧ i = .int .i64 k ∧ Below wn.heap.size wn w' ∧ OwnI wn.heap.size w' v (votersTo c s k)

end Go.Proofs.Ytfpbijcgbknklaa
