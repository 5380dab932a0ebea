/-
  Contracts of package sym: Clean, Common, Front, Whole, Turn: what each call answers, for every text; nothing that was in memory is changed.
-/
import Derived.Test.YtfpbijcgbknklaaSym1
import Derived.BigQuiet
import Derived.Deep.QuietTactic
namespace Go.Proofs.Ytfpbijcgbknklaa
open Go.RowKit Plait
set_option maxRecDepth 100000
set_option linter.unusedVariables false

theorem clone_any (s : ByteArray) (w : World) (hs : s.size ≤ 1099511627776) :
    Calls Try.prog 20 #[.string s] w fun e w' => e = .returned (.string s) ∧ Below w.heap.size w w' := by
  go_enter Try.func20, Try.ntmps20
  go_wp2_with fail
  refine (Try.stringslite_Clone s w (by omega)).mono ?_
  rintro e w' ⟨rfl, hb⟩
  go_wp2
  go_ret
  exact ⟨rfl, hb⟩

theorem ret_str {a b : List UInt8} (h : a = b) : Ending.returned (.string ⟨a.toArray⟩) = .returned (.string ⟨b.toArray⟩) := by rw [h]
/-- The loop of Common: all bytes ahead are the same. -/
def ComAt (l m : List UInt8) (n : Value) : Prop :=
  ∃ k : Nat, k ≤ l.length ∧ k ≤ m.length ∧ l.take k = m.take k ∧ n = .int .i64 k

theorem suffix_tail (l : List UInt8) : Lib.hasSuffix l [35] = (l.getLast? == some 35) := by
  unfold Lib.hasSuffix
  rcases List.eq_nil_or_concat l with rfl | ⟨m, c, rfl⟩
  · rfl
  · simp [List.isSuffixOf, List.isPrefixOf]
    exact BEq.comm

end Go.Proofs.Ytfpbijcgbknklaa
