/-
  A network as it lies in memory.
-/
import Derived.Test.YtfpbijcgbknklaaBase
import Derived.Test.YtfpbijcgbknklaaConf1
namespace Go.Proofs.Ytfpbijcgbknklaa
open Go.RowKit Plait
set_option maxRecDepth 100000

/-- The box of a network. -/
def confBox (c : Cf) (a : Option Addr) (cap : Nat) : Array Value := #[.int .i64 c.N, .int .i64 c.Pi, .int .i64 c.E, .int .i64 c.G, .int .i64 c.F, .slice a c.P.length cap]

end Go.Proofs.Ytfpbijcgbknklaa
