/-
  No cell of these rows narrows 'for every input' (looked for: loops, veiled, ifaces, maps, wideKeys, modest, calm, conditions, laid).
  DERIVED. THE GIVEN ROWS OF THIS SEAT. 6 by the template 'for every input the law returns true; each argument reads behind the call as it read before'; 0 by the template 'total and deterministic' (their statements: YtbghpkdkfbpmeaaTotals.lean).
  GIVEN WITH THE SEED: the statements are not yours to turn. If you find one false, say at which input.
  Laid BY PROGRAM, IN A SANDBOX (cutbox-rows.mjs): the forced cells as the released guide's own fill.sh prints them over the translation f53e44c0ee64b90c… (all of the seat's roots in one cut). By AI agents, Wed Nov 11 2026. No macro, syntax, notation, axiom, sorry.
-/
import Derived.Test.YtbghpkdkfbpmeaaChecked
import GoSem.Claim
import GoSem.ClaimJoined
import GoSem.ClaimMapViews
import Derived.JoinedTies
import Derived.KernelRfl
namespace Go.Proofs.Ytbghpkdkfbpmeaa
/- THE CELL 'sum', in the pinned program and in every row, IS THE sha256 OF THE DUMP (.gsa) THAT YtbghpkdkfbpmeaaProg.lean LOADS. Nothing in Lean hashes anything: it is a label: what it is worth is what the hold of that sum in a sandbox is worth. -/
noncomputable def Try.pinned : Pinned := { name := "ytbghpkdkfbpmeaa", sum := "f53e44c0ee64b90c601325ef21c735bd3cd17b558ee5f46c2d6aaaeff04a1f54", checked := Try.checked }
namespace Rows
def none {H : Type} : Left H := { results := [], args := [] }

/-- 'plaitinglaw6.FaultChecks': WHATEVER THE INPUT: true; the input reads as it did. -/
def faultChecksSpec : ChangeSpec := { name := "faultChecks", fn := fun _ => fun
  | [d1, d2, d3, d4] => { results := [.lit (.bool true)], args := [d1, d2, d3, d4] }
  | _ => none }
def faultChecksRow : OpenClaim := { program := "ytbghpkdkfbpmeaa", sum := "f53e44c0ee64b90c601325ef21c735bd3cd17b558ee5f46c2d6aaaeff04a1f54", func := "plaiting/plaitinglaw6.FaultChecks", spec := "faultChecks", inPlace := ["internal/abi.NoEscape"], unfollowed := true, recurses := true, apart := false }
def FaultChecksSaid : Prop := faultChecksRow.holds Try.pinned (OpenSpec.ofChange faultChecksSpec)

/-- ITS FALSE NEIGHBOUR: 'it returns false'. Refute it at one input. -/
def faultChecksWrong : ChangeSpec := { name := "faultChecks", fn := fun _ => fun
  | [d1, d2, d3, d4] => { results := [.lit (.bool false)], args := [d1, d2, d3, d4] }
  | _ => none }
def FaultChecksWrongFalsely : Prop := faultChecksRow.holds Try.pinned (OpenSpec.ofChange faultChecksWrong)

/-- 'plaitinglaw6.FaultDevs': WHATEVER THE INPUT: true; the input reads as it did. -/
def faultDevsSpec : ChangeSpec := { name := "faultDevs", fn := fun _ => fun
  | [d1, d2, d3, d4, d5, d6] => { results := [.lit (.bool true)], args := [d1, d2, d3, d4, d5, d6] }
  | _ => none }
def faultDevsRow : OpenClaim := { program := "ytbghpkdkfbpmeaa", sum := "f53e44c0ee64b90c601325ef21c735bd3cd17b558ee5f46c2d6aaaeff04a1f54", func := "plaiting/plaitinglaw6.FaultDevs", spec := "faultDevs", inPlace := ["internal/abi.NoEscape"], unfollowed := true, recurses := true, apart := false }
def FaultDevsSaid : Prop := faultDevsRow.holds Try.pinned (OpenSpec.ofChange faultDevsSpec)

/-- ITS FALSE NEIGHBOUR: 'it returns false'. Refute it at one input. -/
def faultDevsWrong : ChangeSpec := { name := "faultDevs", fn := fun _ => fun
  | [d1, d2, d3, d4, d5, d6] => { results := [.lit (.bool false)], args := [d1, d2, d3, d4, d5, d6] }
  | _ => none }
def FaultDevsWrongFalsely : Prop := faultDevsRow.holds Try.pinned (OpenSpec.ofChange faultDevsWrong)

/-- 'plaitinglaw6.FaultOnly': WHATEVER THE INPUT: true; the input reads as it did. -/
def faultOnlySpec : ChangeSpec := { name := "faultOnly", fn := fun _ => fun
  | [d1, d2, d3, d4, d5, d6, d7] => { results := [.lit (.bool true)], args := [d1, d2, d3, d4, d5, d6, d7] }
  | _ => none }
def faultOnlyRow : OpenClaim := { program := "ytbghpkdkfbpmeaa", sum := "f53e44c0ee64b90c601325ef21c735bd3cd17b558ee5f46c2d6aaaeff04a1f54", func := "plaiting/plaitinglaw6.FaultOnly", spec := "faultOnly", inPlace := ["internal/abi.NoEscape"], unfollowed := true, recurses := true, apart := false }
def FaultOnlySaid : Prop := faultOnlyRow.holds Try.pinned (OpenSpec.ofChange faultOnlySpec)

/-- ITS FALSE NEIGHBOUR: 'it returns false'. Refute it at one input. -/
def faultOnlyWrong : ChangeSpec := { name := "faultOnly", fn := fun _ => fun
  | [d1, d2, d3, d4, d5, d6, d7] => { results := [.lit (.bool false)], args := [d1, d2, d3, d4, d5, d6, d7] }
  | _ => none }
def FaultOnlyWrongFalsely : Prop := faultOnlyRow.holds Try.pinned (OpenSpec.ofChange faultOnlyWrong)

/-- 'plaitinglaw6.FaultPicks': WHATEVER THE INPUT: true; the input reads as it did. -/
def faultPicksSpec : ChangeSpec := { name := "faultPicks", fn := fun _ => fun
  | [d1, d2, d3, d4, d5] => { results := [.lit (.bool true)], args := [d1, d2, d3, d4, d5] }
  | _ => none }
def faultPicksRow : OpenClaim := { program := "ytbghpkdkfbpmeaa", sum := "f53e44c0ee64b90c601325ef21c735bd3cd17b558ee5f46c2d6aaaeff04a1f54", func := "plaiting/plaitinglaw6.FaultPicks", spec := "faultPicks", inPlace := ["internal/abi.NoEscape"], unfollowed := true, recurses := true, apart := false }
def FaultPicksSaid : Prop := faultPicksRow.holds Try.pinned (OpenSpec.ofChange faultPicksSpec)

/-- ITS FALSE NEIGHBOUR: 'it returns false'. Refute it at one input. -/
def faultPicksWrong : ChangeSpec := { name := "faultPicks", fn := fun _ => fun
  | [d1, d2, d3, d4, d5] => { results := [.lit (.bool false)], args := [d1, d2, d3, d4, d5] }
  | _ => none }
def FaultPicksWrongFalsely : Prop := faultPicksRow.holds Try.pinned (OpenSpec.ofChange faultPicksWrong)

/-- 'plaitinglaw6.FaultBoth': WHATEVER THE INPUT: true; the input reads as it did. -/
def faultBothSpec : ChangeSpec := { name := "faultBoth", fn := fun _ => fun
  | [d1, d2, d3, d4, d5] => { results := [.lit (.bool true)], args := [d1, d2, d3, d4, d5] }
  | _ => none }
def faultBothRow : OpenClaim := { program := "ytbghpkdkfbpmeaa", sum := "f53e44c0ee64b90c601325ef21c735bd3cd17b558ee5f46c2d6aaaeff04a1f54", func := "plaiting/plaitinglaw6.FaultBoth", spec := "faultBoth", inPlace := ["internal/abi.NoEscape"], unfollowed := true, recurses := true, apart := false }
def FaultBothSaid : Prop := faultBothRow.holds Try.pinned (OpenSpec.ofChange faultBothSpec)

/-- ITS FALSE NEIGHBOUR: 'it returns false'. Refute it at one input. -/
def faultBothWrong : ChangeSpec := { name := "faultBoth", fn := fun _ => fun
  | [d1, d2, d3, d4, d5] => { results := [.lit (.bool false)], args := [d1, d2, d3, d4, d5] }
  | _ => none }
def FaultBothWrongFalsely : Prop := faultBothRow.holds Try.pinned (OpenSpec.ofChange faultBothWrong)

/-- 'plaitinglaw6.FaultTimes': WHATEVER THE INPUT: true; the input reads as it did. -/
def faultTimesSpec : ChangeSpec := { name := "faultTimes", fn := fun _ => fun
  | [d1, d2, d3, d4, d5, d6] => { results := [.lit (.bool true)], args := [d1, d2, d3, d4, d5, d6] }
  | _ => none }
def faultTimesRow : OpenClaim := { program := "ytbghpkdkfbpmeaa", sum := "f53e44c0ee64b90c601325ef21c735bd3cd17b558ee5f46c2d6aaaeff04a1f54", func := "plaiting/plaitinglaw6.FaultTimes", spec := "faultTimes", inPlace := ["internal/abi.NoEscape"], unfollowed := true, recurses := true, apart := false }
def FaultTimesSaid : Prop := faultTimesRow.holds Try.pinned (OpenSpec.ofChange faultTimesSpec)

/-- ITS FALSE NEIGHBOUR: 'it returns false'. Refute it at one input. -/
def faultTimesWrong : ChangeSpec := { name := "faultTimes", fn := fun _ => fun
  | [d1, d2, d3, d4, d5, d6] => { results := [.lit (.bool false)], args := [d1, d2, d3, d4, d5, d6] }
  | _ => none }
def FaultTimesWrongFalsely : Prop := faultTimesRow.holds Try.pinned (OpenSpec.ofChange faultTimesWrong)

/- THE SECOND FORM. 'bulk': how many values and letters a reading holds, each counted each time it is reached (what is shared counts as often as it is met; a slice's spare places count too). A statement '..UptoSaid' is the law's where the arguments, and the package variables that the reading takes, are together of bulk at most 1048576: NARROWER than '..Said'. Prove '..Said' where nothing that the law and all that it calls make is longer than what came in: it says more and counts as full. Else prove '..UptoSaid'. A law counts once. -/
mutual
def uptoBulk {H : Type} : DataW H → Nat
  | .lit (.string bytes) => bytes.length + 1
  | .lit _ => 1
  | .nil => 1
  | .ptr d => uptoBulk d + 1
  | .slice elems spare => uptoBulkAll elems + uptoBulkAll spare + 1
  | .agg parts => uptoBulkAll parts + 1
  | .iface _ d => uptoBulk d + 1
  | .map entries => uptoBulkEntries entries + 1
  | .held _ => 1
def uptoBulkAll {H : Type} : List (DataW H) → Nat
  | [] => 0
  | d :: r => uptoBulk d + uptoBulkAll r
def uptoBulkEntries {H : Type} : List (Lit × DataW H) → Nat
  | [] => 0
  | x :: r => uptoBulkEntry x + uptoBulkEntries r
def uptoBulkEntry {H : Type} : Lit × DataW H → Nat
  | (.string bytes, d) => bytes.length + uptoBulk d + 1
  | (_, d) => uptoBulk d + 1
 end
def uptoSmall : (H : Type) → List (DataW H) → Bool := fun _ ds => decide (uptoBulkAll ds ≤ 1048576)
def OpenSpec.upto (s : _root_.Go.ChangeSpec) : _root_.Go.OpenSpec := { _root_.Go.OpenSpec.ofChange s with cond := some uptoSmall }

/-- 'plaitinglaw6.FaultChecks', WHERE WHAT IT READS IS OF BULK AT MOST 1048576: true; the input reads as it did. -/
def faultChecksUptoRow : OpenClaim := { program := "ytbghpkdkfbpmeaa", sum := "f53e44c0ee64b90c601325ef21c735bd3cd17b558ee5f46c2d6aaaeff04a1f54", func := "plaiting/plaitinglaw6.FaultChecks", spec := "faultChecks", inPlace := ["internal/abi.NoEscape"], unfollowed := true, recurses := true, apart := false, narrowed := true }
def FaultChecksUptoSaid : Prop := faultChecksUptoRow.holds Try.pinned (OpenSpec.upto faultChecksSpec)

/-- 'plaitinglaw6.FaultDevs', WHERE WHAT IT READS IS OF BULK AT MOST 1048576: true; the input reads as it did. -/
def faultDevsUptoRow : OpenClaim := { program := "ytbghpkdkfbpmeaa", sum := "f53e44c0ee64b90c601325ef21c735bd3cd17b558ee5f46c2d6aaaeff04a1f54", func := "plaiting/plaitinglaw6.FaultDevs", spec := "faultDevs", inPlace := ["internal/abi.NoEscape"], unfollowed := true, recurses := true, apart := false, narrowed := true }
def FaultDevsUptoSaid : Prop := faultDevsUptoRow.holds Try.pinned (OpenSpec.upto faultDevsSpec)

/-- 'plaitinglaw6.FaultOnly', WHERE WHAT IT READS IS OF BULK AT MOST 1048576: true; the input reads as it did. -/
def faultOnlyUptoRow : OpenClaim := { program := "ytbghpkdkfbpmeaa", sum := "f53e44c0ee64b90c601325ef21c735bd3cd17b558ee5f46c2d6aaaeff04a1f54", func := "plaiting/plaitinglaw6.FaultOnly", spec := "faultOnly", inPlace := ["internal/abi.NoEscape"], unfollowed := true, recurses := true, apart := false, narrowed := true }
def FaultOnlyUptoSaid : Prop := faultOnlyUptoRow.holds Try.pinned (OpenSpec.upto faultOnlySpec)

/-- 'plaitinglaw6.FaultPicks', WHERE WHAT IT READS IS OF BULK AT MOST 1048576: true; the input reads as it did. -/
def faultPicksUptoRow : OpenClaim := { program := "ytbghpkdkfbpmeaa", sum := "f53e44c0ee64b90c601325ef21c735bd3cd17b558ee5f46c2d6aaaeff04a1f54", func := "plaiting/plaitinglaw6.FaultPicks", spec := "faultPicks", inPlace := ["internal/abi.NoEscape"], unfollowed := true, recurses := true, apart := false, narrowed := true }
def FaultPicksUptoSaid : Prop := faultPicksUptoRow.holds Try.pinned (OpenSpec.upto faultPicksSpec)

/-- 'plaitinglaw6.FaultBoth', WHERE WHAT IT READS IS OF BULK AT MOST 1048576: true; the input reads as it did. -/
def faultBothUptoRow : OpenClaim := { program := "ytbghpkdkfbpmeaa", sum := "f53e44c0ee64b90c601325ef21c735bd3cd17b558ee5f46c2d6aaaeff04a1f54", func := "plaiting/plaitinglaw6.FaultBoth", spec := "faultBoth", inPlace := ["internal/abi.NoEscape"], unfollowed := true, recurses := true, apart := false, narrowed := true }
def FaultBothUptoSaid : Prop := faultBothUptoRow.holds Try.pinned (OpenSpec.upto faultBothSpec)

/-- 'plaitinglaw6.FaultTimes', WHERE WHAT IT READS IS OF BULK AT MOST 1048576: true; the input reads as it did. -/
def faultTimesUptoRow : OpenClaim := { program := "ytbghpkdkfbpmeaa", sum := "f53e44c0ee64b90c601325ef21c735bd3cd17b558ee5f46c2d6aaaeff04a1f54", func := "plaiting/plaitinglaw6.FaultTimes", spec := "faultTimes", inPlace := ["internal/abi.NoEscape"], unfollowed := true, recurses := true, apart := false, narrowed := true }
def FaultTimesUptoSaid : Prop := faultTimesUptoRow.holds Try.pinned (OpenSpec.upto faultTimesSpec)

end Rows
end Go.Proofs.Ytbghpkdkfbpmeaa
