/-
  No cell of these rows narrows 'for every input' (looked for: loops, veiled, ifaces, maps, wideKeys, modest, calm, conditions, laid).
  DERIVED. THE GIVEN ROWS OF THIS SEAT. 6 by the template 'for every input the law returns true; each argument reads behind the call as it read before'; 0 by the template 'total and deterministic' (their statements: YtlchfknfmjddiaaTotals.lean).
  GIVEN WITH THE SEED: the statements are not yours to turn. If you find one false, say at which input.
  Laid BY PROGRAM, IN A SANDBOX (cutbox-rows.mjs): the forced cells as the released guide's own fill.sh prints them over the translation 50c9667b3301f263… (all of the seat's roots in one cut). By AI agents, Wed Nov 11 2026. No macro, syntax, notation, axiom, sorry.
-/
import Derived.Test.YtlchfknfmjddiaaChecked
import GoSem.Claim
import GoSem.ClaimJoined
import GoSem.ClaimMapViews
import Derived.JoinedTies
import Derived.KernelRfl
namespace Go.Proofs.Ytlchfknfmjddiaa
/- THE CELL 'sum', in the pinned program and in every row, IS THE sha256 OF THE DUMP (.gsa) THAT YtlchfknfmjddiaaProg.lean LOADS. Nothing in Lean hashes anything: it is a label: what it is worth is what the hold of that sum in a sandbox is worth. -/
noncomputable def Try.pinned : Pinned := { name := "ytlchfknfmjddiaa", sum := "50c9667b3301f263461964058b63371b18870f322e2a83b7de5028aedcefb4c3", checked := Try.checked }
namespace Rows
def none {H : Type} : Left H := { results := [], args := [] }

/-- 'plaitinglaw4.RingAll': WHATEVER THE INPUT: true; the input reads as it did. -/
def ringAllSpec : ChangeSpec := { name := "ringAll", fn := fun _ => fun
  | [d1, d2, d3, d4, d5] => { results := [.lit (.bool true)], args := [d1, d2, d3, d4, d5] }
  | _ => none }
def ringAllRow : OpenClaim := { program := "ytlchfknfmjddiaa", sum := "50c9667b3301f263461964058b63371b18870f322e2a83b7de5028aedcefb4c3", func := "plaiting/plaitinglaw4.RingAll", spec := "ringAll", apart := false }
def RingAllSaid : Prop := ringAllRow.holds Try.pinned (OpenSpec.ofChange ringAllSpec)

/-- ITS FALSE NEIGHBOUR: 'it returns false'. Refute it at one input. -/
def ringAllWrong : ChangeSpec := { name := "ringAll", fn := fun _ => fun
  | [d1, d2, d3, d4, d5] => { results := [.lit (.bool false)], args := [d1, d2, d3, d4, d5] }
  | _ => none }
def RingAllWrongFalsely : Prop := ringAllRow.holds Try.pinned (OpenSpec.ofChange ringAllWrong)

/-- 'plaitinglaw4.RingLinks': WHATEVER THE INPUT: true; the input reads as it did. -/
def ringLinksSpec : ChangeSpec := { name := "ringLinks", fn := fun _ => fun
  | [d1, d2, d3] => { results := [.lit (.bool true)], args := [d1, d2, d3] }
  | _ => none }
def ringLinksRow : OpenClaim := { program := "ytlchfknfmjddiaa", sum := "50c9667b3301f263461964058b63371b18870f322e2a83b7de5028aedcefb4c3", func := "plaiting/plaitinglaw4.RingLinks", spec := "ringLinks", apart := false }
def RingLinksSaid : Prop := ringLinksRow.holds Try.pinned (OpenSpec.ofChange ringLinksSpec)

/-- ITS FALSE NEIGHBOUR: 'it returns false'. Refute it at one input. -/
def ringLinksWrong : ChangeSpec := { name := "ringLinks", fn := fun _ => fun
  | [d1, d2, d3] => { results := [.lit (.bool false)], args := [d1, d2, d3] }
  | _ => none }
def RingLinksWrongFalsely : Prop := ringLinksRow.holds Try.pinned (OpenSpec.ofChange ringLinksWrong)

/-- 'plaitinglaw4.RingSteps': WHATEVER THE INPUT: true; the input reads as it did. -/
def ringStepsSpec : ChangeSpec := { name := "ringSteps", fn := fun _ => fun
  | [d1, d2, d3, d4] => { results := [.lit (.bool true)], args := [d1, d2, d3, d4] }
  | _ => none }
def ringStepsRow : OpenClaim := { program := "ytlchfknfmjddiaa", sum := "50c9667b3301f263461964058b63371b18870f322e2a83b7de5028aedcefb4c3", func := "plaiting/plaitinglaw4.RingSteps", spec := "ringSteps", apart := false }
def RingStepsSaid : Prop := ringStepsRow.holds Try.pinned (OpenSpec.ofChange ringStepsSpec)

/-- ITS FALSE NEIGHBOUR: 'it returns false'. Refute it at one input. -/
def ringStepsWrong : ChangeSpec := { name := "ringSteps", fn := fun _ => fun
  | [d1, d2, d3, d4] => { results := [.lit (.bool false)], args := [d1, d2, d3, d4] }
  | _ => none }
def RingStepsWrongFalsely : Prop := ringStepsRow.holds Try.pinned (OpenSpec.ofChange ringStepsWrong)

/-- 'plaitinglaw4.RingWays': WHATEVER THE INPUT: true; the input reads as it did. -/
def ringWaysSpec : ChangeSpec := { name := "ringWays", fn := fun _ => fun
  | [d1, d2, d3, d4] => { results := [.lit (.bool true)], args := [d1, d2, d3, d4] }
  | _ => none }
def ringWaysRow : OpenClaim := { program := "ytlchfknfmjddiaa", sum := "50c9667b3301f263461964058b63371b18870f322e2a83b7de5028aedcefb4c3", func := "plaiting/plaitinglaw4.RingWays", spec := "ringWays", unfollowed := true, recurses := true, apart := false }
def RingWaysSaid : Prop := ringWaysRow.holds Try.pinned (OpenSpec.ofChange ringWaysSpec)

/-- ITS FALSE NEIGHBOUR: 'it returns false'. Refute it at one input. -/
def ringWaysWrong : ChangeSpec := { name := "ringWays", fn := fun _ => fun
  | [d1, d2, d3, d4] => { results := [.lit (.bool false)], args := [d1, d2, d3, d4] }
  | _ => none }
def RingWaysWrongFalsely : Prop := ringWaysRow.holds Try.pinned (OpenSpec.ofChange ringWaysWrong)

/-- 'plaitinglaw4.RingKnown': WHATEVER THE INPUT: true; the input reads as it did. -/
def ringKnownSpec : ChangeSpec := { name := "ringKnown", fn := fun _ => fun
  | [d] => { results := [.lit (.bool true)], args := [d] }
  | _ => none }
def ringKnownRow : OpenClaim := { program := "ytlchfknfmjddiaa", sum := "50c9667b3301f263461964058b63371b18870f322e2a83b7de5028aedcefb4c3", func := "plaiting/plaitinglaw4.RingKnown", spec := "ringKnown", unfollowed := true, recurses := true, apart := false }
def RingKnownSaid : Prop := ringKnownRow.holds Try.pinned (OpenSpec.ofChange ringKnownSpec)

/-- ITS FALSE NEIGHBOUR: 'it returns false'. Refute it at one input. -/
def ringKnownWrong : ChangeSpec := { name := "ringKnown", fn := fun _ => fun
  | [d] => { results := [.lit (.bool false)], args := [d] }
  | _ => none }
def RingKnownWrongFalsely : Prop := ringKnownRow.holds Try.pinned (OpenSpec.ofChange ringKnownWrong)

/-- 'plaitinglaw4.RingTurns': WHATEVER THE INPUT: true; the input reads as it did. -/
def ringTurnsSpec : ChangeSpec := { name := "ringTurns", fn := fun _ => fun
  | [d1, d2, d3, d4] => { results := [.lit (.bool true)], args := [d1, d2, d3, d4] }
  | _ => none }
def ringTurnsRow : OpenClaim := { program := "ytlchfknfmjddiaa", sum := "50c9667b3301f263461964058b63371b18870f322e2a83b7de5028aedcefb4c3", func := "plaiting/plaitinglaw4.RingTurns", spec := "ringTurns", apart := false }
def RingTurnsSaid : Prop := ringTurnsRow.holds Try.pinned (OpenSpec.ofChange ringTurnsSpec)

/-- ITS FALSE NEIGHBOUR: 'it returns false'. Refute it at one input. -/
def ringTurnsWrong : ChangeSpec := { name := "ringTurns", fn := fun _ => fun
  | [d1, d2, d3, d4] => { results := [.lit (.bool false)], args := [d1, d2, d3, d4] }
  | _ => none }
def RingTurnsWrongFalsely : Prop := ringTurnsRow.holds Try.pinned (OpenSpec.ofChange ringTurnsWrong)

/- THE SECOND FORM. 'bulk': how many values and letters a reading holds, each counted each time it is reached (what is shared counts as often as it is met; a slice's spare places count too). A statement '..UptoSaid' is the law's where the arguments, and the package variables that the reading takes, are together of bulk at most 1048576: NARROWER than '..Said'. Prove '..Said' where nothing that the law and all that it calls make is longer than what came in: it says more and counts as full. Else prove '..UptoSaid'. A law counts once. -/
mutual
def uptoBulk {H : Type} : DataW H → Nat
  | .lit (.string bytes) => bytes.length + 1
  | .lit _ => 1
  | .nil => 1
  | .ptr d => uptoBulk d + 1
  | .slice elems spare => uptoBulkAll elems + uptoBulkAll spare + 1
  | .agg parts => uptoBulkAll parts + 1
  | .iface _ d => uptoBulk d + 1
  | .map entries => uptoBulkEntries entries + 1
  | .held _ => 1
def uptoBulkAll {H : Type} : List (DataW H) → Nat
  | [] => 0
  | d :: r => uptoBulk d + uptoBulkAll r
def uptoBulkEntries {H : Type} : List (Lit × DataW H) → Nat
  | [] => 0
  | x :: r => uptoBulkEntry x + uptoBulkEntries r
def uptoBulkEntry {H : Type} : Lit × DataW H → Nat
  | (.string bytes, d) => bytes.length + uptoBulk d + 1
  | (_, d) => uptoBulk d + 1
 end
def uptoSmall : (H : Type) → List (DataW H) → Bool := fun _ ds => decide (uptoBulkAll ds ≤ 1048576)
def OpenSpec.upto (s : _root_.Go.ChangeSpec) : _root_.Go.OpenSpec := { _root_.Go.OpenSpec.ofChange s with cond := some uptoSmall }

/-- 'plaitinglaw4.RingAll', WHERE WHAT IT READS IS OF BULK AT MOST 1048576: true; the input reads as it did. -/
def ringAllUptoRow : OpenClaim := { program := "ytlchfknfmjddiaa", sum := "50c9667b3301f263461964058b63371b18870f322e2a83b7de5028aedcefb4c3", func := "plaiting/plaitinglaw4.RingAll", spec := "ringAll", apart := false, narrowed := true }
def RingAllUptoSaid : Prop := ringAllUptoRow.holds Try.pinned (OpenSpec.upto ringAllSpec)

/-- 'plaitinglaw4.RingLinks', WHERE WHAT IT READS IS OF BULK AT MOST 1048576: true; the input reads as it did. -/
def ringLinksUptoRow : OpenClaim := { program := "ytlchfknfmjddiaa", sum := "50c9667b3301f263461964058b63371b18870f322e2a83b7de5028aedcefb4c3", func := "plaiting/plaitinglaw4.RingLinks", spec := "ringLinks", apart := false, narrowed := true }
def RingLinksUptoSaid : Prop := ringLinksUptoRow.holds Try.pinned (OpenSpec.upto ringLinksSpec)

/-- 'plaitinglaw4.RingSteps', WHERE WHAT IT READS IS OF BULK AT MOST 1048576: true; the input reads as it did. -/
def ringStepsUptoRow : OpenClaim := { program := "ytlchfknfmjddiaa", sum := "50c9667b3301f263461964058b63371b18870f322e2a83b7de5028aedcefb4c3", func := "plaiting/plaitinglaw4.RingSteps", spec := "ringSteps", apart := false, narrowed := true }
def RingStepsUptoSaid : Prop := ringStepsUptoRow.holds Try.pinned (OpenSpec.upto ringStepsSpec)

/-- 'plaitinglaw4.RingWays', WHERE WHAT IT READS IS OF BULK AT MOST 1048576: true; the input reads as it did. -/
def ringWaysUptoRow : OpenClaim := { program := "ytlchfknfmjddiaa", sum := "50c9667b3301f263461964058b63371b18870f322e2a83b7de5028aedcefb4c3", func := "plaiting/plaitinglaw4.RingWays", spec := "ringWays", unfollowed := true, recurses := true, apart := false, narrowed := true }
def RingWaysUptoSaid : Prop := ringWaysUptoRow.holds Try.pinned (OpenSpec.upto ringWaysSpec)

/-- 'plaitinglaw4.RingKnown', WHERE WHAT IT READS IS OF BULK AT MOST 1048576: true; the input reads as it did. -/
def ringKnownUptoRow : OpenClaim := { program := "ytlchfknfmjddiaa", sum := "50c9667b3301f263461964058b63371b18870f322e2a83b7de5028aedcefb4c3", func := "plaiting/plaitinglaw4.RingKnown", spec := "ringKnown", unfollowed := true, recurses := true, apart := false, narrowed := true }
def RingKnownUptoSaid : Prop := ringKnownUptoRow.holds Try.pinned (OpenSpec.upto ringKnownSpec)

/-- 'plaitinglaw4.RingTurns', WHERE WHAT IT READS IS OF BULK AT MOST 1048576: true; the input reads as it did. -/
def ringTurnsUptoRow : OpenClaim := { program := "ytlchfknfmjddiaa", sum := "50c9667b3301f263461964058b63371b18870f322e2a83b7de5028aedcefb4c3", func := "plaiting/plaitinglaw4.RingTurns", spec := "ringTurns", apart := false, narrowed := true }
def RingTurnsUptoSaid : Prop := ringTurnsUptoRow.holds Try.pinned (OpenSpec.upto ringTurnsSpec)

end Rows
end Go.Proofs.Ytlchfknfmjddiaa
