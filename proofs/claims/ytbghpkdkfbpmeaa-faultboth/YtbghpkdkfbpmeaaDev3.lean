/-
  Contracts of package conf, first part: numbers of a network, who is a node, whose pair slot it is, a slot's owners; nothing that was in memory is changed.
-/
import Derived.Test.YtbghpkdkfbpmeaaConf2
namespace Go.Proofs.Ytbghpkdkfbpmeaa
open Go.RowKit Plait
set_option maxRecDepth 100000
set_option linter.unusedVariables false

theorem cslots_any (c : Cf) (a : Option Addr) (cap : Nat) (w : World) (hc : c.Ok) :
    Calls Try.prog 70 #[.agg #[.int .i64 c.N, .int .i64 c.Pi, .int .i64 c.E, .int .i64 c.G, .int .i64 c.F, .slice a c.P.length cap]] w fun e w' => e = .returned (.int .i64 (slotsI c)) ∧ Below w.heap.size w w' := by
  have h1 := hc.n6; have h2 := hc.n12; have h3 := hc.len
  go_enter Try.func70, Try.ntmps70
  go_wp2
  go_ret
  exact ⟨rfl, (Below.refl _ _).alloc (Nat.le_refl _) _⟩

theorem cwindow_any (c : Cf) (a : Option Addr) (cap : Nat) (w : World) (hc : c.Ok) :
    Calls Try.prog 33 #[.agg #[.int .i64 c.N, .int .i64 c.Pi, .int .i64 c.E, .int .i64 c.G, .int .i64 c.F, .slice a c.P.length cap]] w fun e w' => e = .returned (.int .i64 (windowI c)) ∧ Below w.heap.size w w' := by
  have h1 := hc.p0; have h2 := hc.p1; have h3 := hc.e0; have h4 := hc.g0
  go_enter Try.func33, Try.ntmps33
  go_wp2
  go_ret
  exact ⟨rfl, (Below.refl _ _).alloc (Nat.le_refl _) _⟩

theorem cwire_any (c : Cf) (a : Option Addr) (cap : Nat) (r : Int) (w : World) (hc : c.Ok) (hr : 0 ≤ r) (hr2 : r ≤ 1099511627776) :
    Calls Try.prog 69 #[.agg #[.int .i64 c.N, .int .i64 c.Pi, .int .i64 c.E, .int .i64 c.G, .int .i64 c.F, .slice a c.P.length cap], .int .i64 r] w fun e w' => e = .returned (.int .i64 (wireI c r)) ∧ Below w.heap.size w w' := by
  have h1 := hc.f0; have h2 := hc.f1
  have hd : IntKind.u16.wrap (c.F + r) = (c.F + r) % 65536 := by simp [IntKind.wrap, IntKind.signed, IntKind.bits]
  have HF := Lib.hid (show (c.F + r) % 65536 = wireI c r from rfl)
  go_enter Try.func69, Try.ntmps69
  go_wp2
  go_ret
  exact ⟨ret_int (by rw [← HF.out]), (Below.refl _ _).alloc (Nat.le_refl _) _⟩

/-- The loop of pairOf: none of the pairs ahead of k has the slot. -/
def PairAt (c : Cf) (s : Int) (i : Value) : Prop := ∃ k : Nat, k ≤ c.P.length ∧ i = .int .i64 k ∧ ∀ j : Nat, j < k → s ≠ c.N + j

end Go.Proofs.Ytbghpkdkfbpmeaa
