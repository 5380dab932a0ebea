/-
  Contracts of plaitingref5, fourth part: whether a frame may be.
-/
import Derived.Test.YtbghpkdkfbpmeaaFr4
namespace Go.Proofs.Ytbghpkdkfbpmeaa
open Go.RowKit Plait
set_option maxRecDepth 100000
set_option linter.unusedVariables false

/-- The loop over the items. -/
def CheckAt (c : Cf) (ca : Option Addr) (cc : Nat) (f : Fr) (a : Option Addr) (cap : Nat) (w : World) (i : Value) (w' : World) : Prop :=
  ∃ k : Nat, k ≤ f.E.length ∧ i = .int .i64 k ∧ (f.E.take k).all (itemB · false) = true ∧ Below w.heap.size w w' ∧ Blk w' (w.heap.size + 1) 82 (frBox f a cap)

theorem all_step (E : List It) (k : Nat) (h : k < E.length) (ha : (E.take k).all (itemB · false) = true) (e : itemB E[k] false = true) : (E.take (k + 1)).all (itemB · false) = true := by
  rw [List.take_succ_eq_append_getElem h, List.all_append, ha]
  simp [e]
theorem all_no (E : List It) (k : Nat) (h : k < E.length) (e : itemB E[k] false = false) : E.all (itemB · false) = false := by
  rw [Bool.eq_false_iff]
  intro hc
  have := List.all_eq_true.1 hc _ (List.getElem_mem h)
  rw [e] at this
  cases this
theorem all_end (E : List It) (k : Nat) (h : ¬ k < E.length) (ha : (E.take k).all (itemB · false) = true) : E.all (itemB · false) = true := by
  rwa [List.take_of_length_le (by omega)] at ha

end Go.Proofs.Ytbghpkdkfbpmeaa
