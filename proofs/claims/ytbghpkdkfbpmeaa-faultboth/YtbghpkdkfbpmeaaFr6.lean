/-
  Contracts of plaitingref5, fifth part: numbers and items of bits, frames of texts.
-/
import Derived.Test.YtbghpkdkfbpmeaaFr5
namespace Go.Proofs.Ytbghpkdkfbpmeaa
open Go.RowKit Plait
set_option maxRecDepth 100000
set_option linter.unusedVariables false

theorem numR_form (l : List UInt8) : ∃ b, numR l = .tuple #[.int .i64 (num0 l), .bool b] := by
  unfold numR num0
  split
  · exact ⟨true, rfl⟩
  · exact ⟨false, rfl⟩

end Go.Proofs.Ytbghpkdkfbpmeaa
