/-
  Contracts of plaitingref5, third part: whether frames are the same, whether one may be.
-/
import Derived.Test.YtbghpkdkfbpmeaaFr3
namespace Go.Proofs.Ytbghpkdkfbpmeaa
open Go.RowKit Plait
set_option maxRecDepth 100000
set_option linter.unusedVariables false

/-- The loop of Items. -/
def ItemsAt (xs ys : List It) (w : World) (i : Value) (w' : World) : Prop := ∃ k : Nat, k ≤ xs.length ∧ i = .int .i64 k ∧ xs.take k = ys.take k ∧ Below w.heap.size w w'

theorem it_ext (a b : It) (h : a.K = b.K) (h2 : a.V = b.V) : a = b := by cases a; cases b; simp_all

theorem items_step (xs ys : List It) (k : Nat) (h : k < xs.length) (h2 : k < ys.length) (ha : xs.take k = ys.take k) (e : xs[k] = ys[k]) : xs.take (k + 1) = ys.take (k + 1) := by
  rw [List.take_succ_eq_append_getElem h, List.take_succ_eq_append_getElem h2, ha, e]
theorem items_no (xs ys : List It) (k : Nat) (h : k < xs.length) (h2 : k < ys.length) (e : xs[k] ≠ ys[k]) : decide (xs = ys) = false := by
  rw [decide_eq_false_iff_not]
  rintro rfl
  exact e rfl
theorem items_end (xs ys : List It) (k : Nat) (h : ¬ k < xs.length) (hl : xs.length = ys.length) (ha : xs.take k = ys.take k) : decide (xs = ys) = true := by
  rw [List.take_of_length_le (by omega), List.take_of_length_le (by omega)] at ha
  simp [ha]

theorem fr_dec (f g : Fr) (h1 : f.K = g.K) (h2 : f.R = g.R) (h3 : f.S = g.S) (h4 : f.P.K = g.P.K) (h5 : f.P.V = g.P.V) : decide (f = g) = decide (f.E = g.E) := by
  have hp := it_ext f.P g.P h4 h5
  cases f
  cases g
  simp_all

theorem fr_no (f g : Fr) (h : f.K ≠ g.K ∨ f.R ≠ g.R ∨ f.S ≠ g.S ∨ f.P.K ≠ g.P.K ∨ f.P.V ≠ g.P.V) : decide (f = g) = false := by
  rw [decide_eq_false_iff_not]
  rintro rfl
  simp at h

end Go.Proofs.Ytbghpkdkfbpmeaa
