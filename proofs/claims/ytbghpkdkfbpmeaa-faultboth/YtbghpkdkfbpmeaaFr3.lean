/-
  Contracts of plaitingref5, second part: texts of frames.
-/
import Derived.Test.YtbghpkdkfbpmeaaClass2
namespace Go.Proofs.Ytbghpkdkfbpmeaa
open Go.RowKit Plait
set_option maxRecDepth 100000
set_option linter.unusedVariables false

/-- The loop over the items. -/
def TextAt (f : Fr) (a : Option Addr) (cap : Nat) (w : World) (s i : Value) (w' : World) : Prop :=
  ∃ k : Nat, k ≤ f.E.length ∧ i = .int .i64 k ∧ s = .string ⟨(frHead f ++ (f.E.take k).flatMap itBits).toArray⟩ ∧ Below w.heap.size w w' ∧ Blk w' (w.heap.size + 1) 82 (frBox f a cap)

theorem items_take (E : List It) (k : Nat) (h : k < E.length) : (E.take (k + 1)).flatMap itBits = (E.take k).flatMap itBits ++ itBits E[k] := by
  rw [List.take_succ_eq_append_getElem h, List.flatMap_append]
  simp

end Go.Proofs.Ytbghpkdkfbpmeaa
