/-
  Contracts of package conf, first part: numbers of a network, who is a node, whose pair slot it is, a slot's owners; nothing that was in memory is changed.
-/
import Derived.Test.YtfpbijcgbknklaaConf2
namespace Go.Proofs.Ytfpbijcgbknklaa
open Go.RowKit Plait
set_option maxRecDepth 100000
set_option linter.unusedVariables false

theorem cwindow_any (c : Cf) (a : Option Addr) (cap : Nat) (w : World) (hc : c.Ok) :
    Calls Try.prog 21 #[.agg #[.int .i64 c.N, .int .i64 c.Pi, .int .i64 c.E, .int .i64 c.G, .int .i64 c.F, .slice a c.P.length cap]] w fun e w' => e = .returned (.int .i64 (windowI c)) ∧ Below w.heap.size w w' := by
  have h1 := hc.p0; have h2 := hc.p1; have h3 := hc.e0; have h4 := hc.g0
  go_enter Try.func21, Try.ntmps21
  go_wp2
  go_ret
  exact ⟨rfl, (Below.refl _ _).alloc (Nat.le_refl _) _⟩

/-- The loop of pairOf: none of the pairs ahead of k has the slot. -/
def PairAt (c : Cf) (s : Int) (i : Value) : Prop := ∃ k : Nat, k ≤ c.P.length ∧ i = .int .i64 k ∧ ∀ j : Nat, j < k → s ≠ c.N + j

end Go.Proofs.Ytfpbijcgbknklaa
