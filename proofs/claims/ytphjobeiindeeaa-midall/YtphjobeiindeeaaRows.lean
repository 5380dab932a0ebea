/-
  No cell of these rows narrows 'for every input' (looked for: loops, veiled, ifaces, maps, wideKeys, modest, calm, conditions, laid).
  DERIVED. THE GIVEN ROWS OF THIS SEAT. 6 by the template 'for every input the law returns true; each argument reads behind the call as it read before'; 0 by the template 'total and deterministic' (their statements: YtphjobeiindeeaaTotals.lean).
  GIVEN WITH THE SEED: the statements are not yours to turn. If you find one false, say at which input.
  Laid BY PROGRAM, IN A SANDBOX (cutbox-rows.mjs): the forced cells as the released guide's own fill.sh prints them over the translation 0543a6688e666a50… (all of the seat's roots in one cut). By AI agents, Wed Nov 11 2026. No macro, syntax, notation, axiom, sorry.
-/
import Derived.Test.YtphjobeiindeeaaChecked
import GoSem.Claim
import GoSem.ClaimJoined
import GoSem.ClaimMapViews
import Derived.JoinedTies
import Derived.KernelRfl
namespace Go.Proofs.Ytphjobeiindeeaa
/- THE CELL 'sum', in the pinned program and in every row, IS THE sha256 OF THE DUMP (.gsa) THAT YtphjobeiindeeaaProg.lean LOADS. Nothing in Lean hashes anything: it is a label: what it is worth is what the hold of that sum in a sandbox is worth. -/
noncomputable def Try.pinned : Pinned := { name := "ytphjobeiindeeaa", sum := "0543a6688e666a505749742f669e625476b6dc24e8844d847830046cabd5aaf2", checked := Try.checked }
namespace Rows
def none {H : Type} : Left H := { results := [], args := [] }

/-- 'plaitinglaw11.MidAll': WHATEVER THE INPUT: true; the input reads as it did. -/
def midAllSpec : ChangeSpec := { name := "midAll", fn := fun _ => fun
  | [d1, d2, d3] => { results := [.lit (.bool true)], args := [d1, d2, d3] }
  | _ => none }
def midAllRow : OpenClaim := { program := "ytphjobeiindeeaa", sum := "0543a6688e666a505749742f669e625476b6dc24e8844d847830046cabd5aaf2", func := "plaiting/plaitinglaw11.MidAll", spec := "midAll", apart := false }
def MidAllSaid : Prop := midAllRow.holds Try.pinned (OpenSpec.ofChange midAllSpec)

/-- ITS FALSE NEIGHBOUR: 'it returns false'. Refute it at one input. -/
def midAllWrong : ChangeSpec := { name := "midAll", fn := fun _ => fun
  | [d1, d2, d3] => { results := [.lit (.bool false)], args := [d1, d2, d3] }
  | _ => none }
def MidAllWrongFalsely : Prop := midAllRow.holds Try.pinned (OpenSpec.ofChange midAllWrong)

/-- 'plaitinglaw11.MidBetween': WHATEVER THE INPUT: true; the input reads as it did. -/
def midBetweenSpec : ChangeSpec := { name := "midBetween", fn := fun _ => fun
  | [d1, d2] => { results := [.lit (.bool true)], args := [d1, d2] }
  | _ => none }
def midBetweenRow : OpenClaim := { program := "ytphjobeiindeeaa", sum := "0543a6688e666a505749742f669e625476b6dc24e8844d847830046cabd5aaf2", func := "plaiting/plaitinglaw11.MidBetween", spec := "midBetween", apart := false }
def MidBetweenSaid : Prop := midBetweenRow.holds Try.pinned (OpenSpec.ofChange midBetweenSpec)

/-- ITS FALSE NEIGHBOUR: 'it returns false'. Refute it at one input. -/
def midBetweenWrong : ChangeSpec := { name := "midBetween", fn := fun _ => fun
  | [d1, d2] => { results := [.lit (.bool false)], args := [d1, d2] }
  | _ => none }
def MidBetweenWrongFalsely : Prop := midBetweenRow.holds Try.pinned (OpenSpec.ofChange midBetweenWrong)

/-- 'plaitinglaw11.MidOne': WHATEVER THE INPUT: true; the input reads as it did. -/
def midOneSpec : ChangeSpec := { name := "midOne", fn := fun _ => fun
  | [d1, d2, d3] => { results := [.lit (.bool true)], args := [d1, d2, d3] }
  | _ => none }
def midOneRow : OpenClaim := { program := "ytphjobeiindeeaa", sum := "0543a6688e666a505749742f669e625476b6dc24e8844d847830046cabd5aaf2", func := "plaiting/plaitinglaw11.MidOne", spec := "midOne", apart := false }
def MidOneSaid : Prop := midOneRow.holds Try.pinned (OpenSpec.ofChange midOneSpec)

/-- ITS FALSE NEIGHBOUR: 'it returns false'. Refute it at one input. -/
def midOneWrong : ChangeSpec := { name := "midOne", fn := fun _ => fun
  | [d1, d2, d3] => { results := [.lit (.bool false)], args := [d1, d2, d3] }
  | _ => none }
def MidOneWrongFalsely : Prop := midOneRow.holds Try.pinned (OpenSpec.ofChange midOneWrong)

/-- 'plaitinglaw11.MidTwo': WHATEVER THE INPUT: true; the input reads as it did. -/
def midTwoSpec : ChangeSpec := { name := "midTwo", fn := fun _ => fun
  | [d1, d2, d3, d4, d5, d6] => { results := [.lit (.bool true)], args := [d1, d2, d3, d4, d5, d6] }
  | _ => none }
def midTwoRow : OpenClaim := { program := "ytphjobeiindeeaa", sum := "0543a6688e666a505749742f669e625476b6dc24e8844d847830046cabd5aaf2", func := "plaiting/plaitinglaw11.MidTwo", spec := "midTwo", apart := false }
def MidTwoSaid : Prop := midTwoRow.holds Try.pinned (OpenSpec.ofChange midTwoSpec)

/-- ITS FALSE NEIGHBOUR: 'it returns false'. Refute it at one input. -/
def midTwoWrong : ChangeSpec := { name := "midTwo", fn := fun _ => fun
  | [d1, d2, d3, d4, d5, d6] => { results := [.lit (.bool false)], args := [d1, d2, d3, d4, d5, d6] }
  | _ => none }
def MidTwoWrongFalsely : Prop := midTwoRow.holds Try.pinned (OpenSpec.ofChange midTwoWrong)

/-- 'plaitinglaw11.MidKnown': WHATEVER THE INPUT: true; the input reads as it did. -/
def midKnownSpec : ChangeSpec := { name := "midKnown", fn := fun _ => fun
  | [d] => { results := [.lit (.bool true)], args := [d] }
  | _ => none }
def midKnownRow : OpenClaim := { program := "ytphjobeiindeeaa", sum := "0543a6688e666a505749742f669e625476b6dc24e8844d847830046cabd5aaf2", func := "plaiting/plaitinglaw11.MidKnown", spec := "midKnown", apart := false }
def MidKnownSaid : Prop := midKnownRow.holds Try.pinned (OpenSpec.ofChange midKnownSpec)

/-- ITS FALSE NEIGHBOUR: 'it returns false'. Refute it at one input. -/
def midKnownWrong : ChangeSpec := { name := "midKnown", fn := fun _ => fun
  | [d] => { results := [.lit (.bool false)], args := [d] }
  | _ => none }
def MidKnownWrongFalsely : Prop := midKnownRow.holds Try.pinned (OpenSpec.ofChange midKnownWrong)

/-- 'plaitinglaw11.MidRises': WHATEVER THE INPUT: true; the input reads as it did. -/
def midRisesSpec : ChangeSpec := { name := "midRises", fn := fun _ => fun
  | [d1, d2, d3] => { results := [.lit (.bool true)], args := [d1, d2, d3] }
  | _ => none }
def midRisesRow : OpenClaim := { program := "ytphjobeiindeeaa", sum := "0543a6688e666a505749742f669e625476b6dc24e8844d847830046cabd5aaf2", func := "plaiting/plaitinglaw11.MidRises", spec := "midRises", apart := false }
def MidRisesSaid : Prop := midRisesRow.holds Try.pinned (OpenSpec.ofChange midRisesSpec)

/-- ITS FALSE NEIGHBOUR: 'it returns false'. Refute it at one input. -/
def midRisesWrong : ChangeSpec := { name := "midRises", fn := fun _ => fun
  | [d1, d2, d3] => { results := [.lit (.bool false)], args := [d1, d2, d3] }
  | _ => none }
def MidRisesWrongFalsely : Prop := midRisesRow.holds Try.pinned (OpenSpec.ofChange midRisesWrong)

/- THE SECOND FORM. 'bulk': how many values and letters a reading holds, each counted each time it is reached (what is shared counts as often as it is met; a slice's spare places count too). A statement '..UptoSaid' is the law's where the arguments, and the package variables that the reading takes, are together of bulk at most 1048576: NARROWER than '..Said'. Prove '..Said' where nothing that the law and all that it calls make is longer than what came in: it says more and counts as full. Else prove '..UptoSaid'. A law counts once. -/
mutual
def uptoBulk {H : Type} : DataW H → Nat
  | .lit (.string bytes) => bytes.length + 1
  | .lit _ => 1
  | .nil => 1
  | .ptr d => uptoBulk d + 1
  | .slice elems spare => uptoBulkAll elems + uptoBulkAll spare + 1
  | .agg parts => uptoBulkAll parts + 1
  | .iface _ d => uptoBulk d + 1
  | .map entries => uptoBulkEntries entries + 1
  | .held _ => 1
def uptoBulkAll {H : Type} : List (DataW H) → Nat
  | [] => 0
  | d :: r => uptoBulk d + uptoBulkAll r
def uptoBulkEntries {H : Type} : List (Lit × DataW H) → Nat
  | [] => 0
  | x :: r => uptoBulkEntry x + uptoBulkEntries r
def uptoBulkEntry {H : Type} : Lit × DataW H → Nat
  | (.string bytes, d) => bytes.length + uptoBulk d + 1
  | (_, d) => uptoBulk d + 1
 end
def uptoSmall : (H : Type) → List (DataW H) → Bool := fun _ ds => decide (uptoBulkAll ds ≤ 1048576)
def OpenSpec.upto (s : _root_.Go.ChangeSpec) : _root_.Go.OpenSpec := { _root_.Go.OpenSpec.ofChange s with cond := some uptoSmall }

/-- 'plaitinglaw11.MidAll', WHERE WHAT IT READS IS OF BULK AT MOST 1048576: true; the input reads as it did. -/
def midAllUptoRow : OpenClaim := { program := "ytphjobeiindeeaa", sum := "0543a6688e666a505749742f669e625476b6dc24e8844d847830046cabd5aaf2", func := "plaiting/plaitinglaw11.MidAll", spec := "midAll", apart := false, narrowed := true }
def MidAllUptoSaid : Prop := midAllUptoRow.holds Try.pinned (OpenSpec.upto midAllSpec)

/-- 'plaitinglaw11.MidBetween', WHERE WHAT IT READS IS OF BULK AT MOST 1048576: true; the input reads as it did. -/
def midBetweenUptoRow : OpenClaim := { program := "ytphjobeiindeeaa", sum := "0543a6688e666a505749742f669e625476b6dc24e8844d847830046cabd5aaf2", func := "plaiting/plaitinglaw11.MidBetween", spec := "midBetween", apart := false, narrowed := true }
def MidBetweenUptoSaid : Prop := midBetweenUptoRow.holds Try.pinned (OpenSpec.upto midBetweenSpec)

/-- 'plaitinglaw11.MidOne', WHERE WHAT IT READS IS OF BULK AT MOST 1048576: true; the input reads as it did. -/
def midOneUptoRow : OpenClaim := { program := "ytphjobeiindeeaa", sum := "0543a6688e666a505749742f669e625476b6dc24e8844d847830046cabd5aaf2", func := "plaiting/plaitinglaw11.MidOne", spec := "midOne", apart := false, narrowed := true }
def MidOneUptoSaid : Prop := midOneUptoRow.holds Try.pinned (OpenSpec.upto midOneSpec)

/-- 'plaitinglaw11.MidTwo', WHERE WHAT IT READS IS OF BULK AT MOST 1048576: true; the input reads as it did. -/
def midTwoUptoRow : OpenClaim := { program := "ytphjobeiindeeaa", sum := "0543a6688e666a505749742f669e625476b6dc24e8844d847830046cabd5aaf2", func := "plaiting/plaitinglaw11.MidTwo", spec := "midTwo", apart := false, narrowed := true }
def MidTwoUptoSaid : Prop := midTwoUptoRow.holds Try.pinned (OpenSpec.upto midTwoSpec)

/-- 'plaitinglaw11.MidKnown', WHERE WHAT IT READS IS OF BULK AT MOST 1048576: true; the input reads as it did. -/
def midKnownUptoRow : OpenClaim := { program := "ytphjobeiindeeaa", sum := "0543a6688e666a505749742f669e625476b6dc24e8844d847830046cabd5aaf2", func := "plaiting/plaitinglaw11.MidKnown", spec := "midKnown", apart := false, narrowed := true }
def MidKnownUptoSaid : Prop := midKnownUptoRow.holds Try.pinned (OpenSpec.upto midKnownSpec)

/-- 'plaitinglaw11.MidRises', WHERE WHAT IT READS IS OF BULK AT MOST 1048576: true; the input reads as it did. -/
def midRisesUptoRow : OpenClaim := { program := "ytphjobeiindeeaa", sum := "0543a6688e666a505749742f669e625476b6dc24e8844d847830046cabd5aaf2", func := "plaiting/plaitinglaw11.MidRises", spec := "midRises", apart := false, narrowed := true }
def MidRisesUptoSaid : Prop := midRisesUptoRow.holds Try.pinned (OpenSpec.upto midRisesSpec)

end Rows
end Go.Proofs.Ytphjobeiindeeaa
