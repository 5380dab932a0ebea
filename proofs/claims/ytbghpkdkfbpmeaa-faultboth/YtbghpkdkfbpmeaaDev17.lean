/-
  Contracts of package frame, ninth part: Same.
-/
import Derived.Test.YtbghpkdkfbpmeaaDev16
namespace Go.Proofs.Ytbghpkdkfbpmeaa
open Go.RowKit Plait
set_option maxRecDepth 100000
set_option linter.unusedVariables false

end Go.Proofs.Ytbghpkdkfbpmeaa
