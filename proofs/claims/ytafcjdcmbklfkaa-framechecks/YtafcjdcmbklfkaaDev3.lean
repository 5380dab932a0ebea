/-
  Contracts of package conf, first part: numbers of a network, who is a node, whose pair slot it is, a slot's owners; nothing that was in memory is changed.
-/
import Derived.Test.YtafcjdcmbklfkaaConf2
namespace Go.Proofs.Ytafcjdcmbklfkaa
open Go.RowKit Plait
set_option linter.unusedVariables false

theorem cslots_any (c : Cf) (a : Option Addr) (cap : Nat) (w : World) (hc : c.Ok) :
    Calls Try.prog 61 #[.agg #[.int .i64 c.N, .int .i64 c.Pi, .int .i64 c.E, .int .i64 c.G, .int .i64 c.F, .slice a c.P.length cap]] w fun e w' => e = .returned (.int .i64 (slotsI c)) ∧ Below w.heap.size w w' := by
  have h1 := hc.n6; have h2 := hc.n12; have h3 := hc.len
  go_enter Try.func61, Try.ntmps61
  go_wp2
  go_ret
  exact ⟨rfl, (Below.refl _ _).alloc (Nat.le_refl _) _⟩

/-- The loop of pairOf: none of the pairs ahead of k has the slot. -/
def PairAt (c : Cf) (s : Int) (i : Value) : Prop := ∃ k : Nat, k ≤ c.P.length ∧ i = .int .i64 k ∧ ∀ j : Nat, j < k → s ≠ c.N + j

end Go.Proofs.Ytafcjdcmbklfkaa
