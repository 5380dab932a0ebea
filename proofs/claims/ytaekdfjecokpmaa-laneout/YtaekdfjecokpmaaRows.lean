/-
  No cell of these rows narrows 'for every input' (looked for: loops, veiled, ifaces, maps, wideKeys, modest, calm, conditions, laid).
  DERIVED. THE GIVEN ROWS OF THIS SEAT. 6 by the template 'for every input the law returns true; each argument reads behind the call as it read before'; 0 by the template 'total and deterministic' (their statements: YtaekdfjecokpmaaTotals.lean).
  GIVEN WITH THE SEED: the statements are not yours to turn. If you find one false, say at which input.
  Laid BY PROGRAM, IN A SANDBOX (cutbox-rows.mjs): the forced cells as the released guide's own fill.sh prints them over the translation 4949cdc93d2a14c1… (all of the seat's roots in one cut). By AI agents, Wed Nov 11 2026. No macro, syntax, notation, axiom, sorry.
-/
import Derived.Test.YtaekdfjecokpmaaChecked
import GoSem.Claim
import GoSem.ClaimJoined
import GoSem.ClaimMapViews
import Derived.JoinedTies
import Derived.KernelRfl
namespace Go.Proofs.Ytaekdfjecokpmaa
/- THE CELL 'sum', in the pinned program and in every row, IS THE sha256 OF THE DUMP (.gsa) THAT YtaekdfjecokpmaaProg.lean LOADS. Nothing in Lean hashes anything: it is a label: what it is worth is what the hold of that sum in a sandbox is worth. -/
noncomputable def Try.pinned : Pinned := { name := "ytaekdfjecokpmaa", sum := "4949cdc93d2a14c18e7a6a44bfe5c9638a55d81342695cda0530230f82d6a59e", checked := Try.checked }
namespace Rows
def none {H : Type} : Left H := { results := [], args := [] }

/-- 'plaitinglaw7.LaneOut': WHATEVER THE INPUT: true; the input reads as it did. -/
def laneOutSpec : ChangeSpec := { name := "laneOut", fn := fun _ => fun
  | [d1, d2, d3, d4, d5] => { results := [.lit (.bool true)], args := [d1, d2, d3, d4, d5] }
  | _ => none }
def laneOutRow : OpenClaim := { program := "ytaekdfjecokpmaa", sum := "4949cdc93d2a14c18e7a6a44bfe5c9638a55d81342695cda0530230f82d6a59e", func := "plaiting/plaitinglaw7.LaneOut", spec := "laneOut", unfollowed := true, recurses := true, apart := false }
def LaneOutSaid : Prop := laneOutRow.holds Try.pinned (OpenSpec.ofChange laneOutSpec)

/-- ITS FALSE NEIGHBOUR: 'it returns false'. Refute it at one input. -/
def laneOutWrong : ChangeSpec := { name := "laneOut", fn := fun _ => fun
  | [d1, d2, d3, d4, d5] => { results := [.lit (.bool false)], args := [d1, d2, d3, d4, d5] }
  | _ => none }
def LaneOutWrongFalsely : Prop := laneOutRow.holds Try.pinned (OpenSpec.ofChange laneOutWrong)

/-- 'plaitinglaw7.LaneSteps': WHATEVER THE INPUT: true; the input reads as it did. -/
def laneStepsSpec : ChangeSpec := { name := "laneSteps", fn := fun _ => fun
  | [d1, d2, d3, d4, d5] => { results := [.lit (.bool true)], args := [d1, d2, d3, d4, d5] }
  | _ => none }
def laneStepsRow : OpenClaim := { program := "ytaekdfjecokpmaa", sum := "4949cdc93d2a14c18e7a6a44bfe5c9638a55d81342695cda0530230f82d6a59e", func := "plaiting/plaitinglaw7.LaneSteps", spec := "laneSteps", unfollowed := true, recurses := true, apart := false }
def LaneStepsSaid : Prop := laneStepsRow.holds Try.pinned (OpenSpec.ofChange laneStepsSpec)

/-- ITS FALSE NEIGHBOUR: 'it returns false'. Refute it at one input. -/
def laneStepsWrong : ChangeSpec := { name := "laneSteps", fn := fun _ => fun
  | [d1, d2, d3, d4, d5] => { results := [.lit (.bool false)], args := [d1, d2, d3, d4, d5] }
  | _ => none }
def LaneStepsWrongFalsely : Prop := laneStepsRow.holds Try.pinned (OpenSpec.ofChange laneStepsWrong)

/-- 'plaitinglaw7.LaneFronts': WHATEVER THE INPUT: true; the input reads as it did. -/
def laneFrontsSpec : ChangeSpec := { name := "laneFronts", fn := fun _ => fun
  | [d1, d2, d3] => { results := [.lit (.bool true)], args := [d1, d2, d3] }
  | _ => none }
def laneFrontsRow : OpenClaim := { program := "ytaekdfjecokpmaa", sum := "4949cdc93d2a14c18e7a6a44bfe5c9638a55d81342695cda0530230f82d6a59e", func := "plaiting/plaitinglaw7.LaneFronts", spec := "laneFronts", unfollowed := true, recurses := true, apart := false }
def LaneFrontsSaid : Prop := laneFrontsRow.holds Try.pinned (OpenSpec.ofChange laneFrontsSpec)

/-- ITS FALSE NEIGHBOUR: 'it returns false'. Refute it at one input. -/
def laneFrontsWrong : ChangeSpec := { name := "laneFronts", fn := fun _ => fun
  | [d1, d2, d3] => { results := [.lit (.bool false)], args := [d1, d2, d3] }
  | _ => none }
def LaneFrontsWrongFalsely : Prop := laneFrontsRow.holds Try.pinned (OpenSpec.ofChange laneFrontsWrong)

/-- 'plaitinglaw7.LaneThree': WHATEVER THE INPUT: true; the input reads as it did. -/
def laneThreeSpec : ChangeSpec := { name := "laneThree", fn := fun _ => fun
  | [d1, d2, d3, d4] => { results := [.lit (.bool true)], args := [d1, d2, d3, d4] }
  | _ => none }
def laneThreeRow : OpenClaim := { program := "ytaekdfjecokpmaa", sum := "4949cdc93d2a14c18e7a6a44bfe5c9638a55d81342695cda0530230f82d6a59e", func := "plaiting/plaitinglaw7.LaneThree", spec := "laneThree", unfollowed := true, recurses := true, apart := false }
def LaneThreeSaid : Prop := laneThreeRow.holds Try.pinned (OpenSpec.ofChange laneThreeSpec)

/-- ITS FALSE NEIGHBOUR: 'it returns false'. Refute it at one input. -/
def laneThreeWrong : ChangeSpec := { name := "laneThree", fn := fun _ => fun
  | [d1, d2, d3, d4] => { results := [.lit (.bool false)], args := [d1, d2, d3, d4] }
  | _ => none }
def LaneThreeWrongFalsely : Prop := laneThreeRow.holds Try.pinned (OpenSpec.ofChange laneThreeWrong)

/-- 'plaitinglaw7.LaneApart': WHATEVER THE INPUT: true; the input reads as it did. -/
def laneApartSpec : ChangeSpec := { name := "laneApart", fn := fun _ => fun
  | [d1, d2] => { results := [.lit (.bool true)], args := [d1, d2] }
  | _ => none }
def laneApartRow : OpenClaim := { program := "ytaekdfjecokpmaa", sum := "4949cdc93d2a14c18e7a6a44bfe5c9638a55d81342695cda0530230f82d6a59e", func := "plaiting/plaitinglaw7.LaneApart", spec := "laneApart", unfollowed := true, recurses := true, apart := false }
def LaneApartSaid : Prop := laneApartRow.holds Try.pinned (OpenSpec.ofChange laneApartSpec)

/-- ITS FALSE NEIGHBOUR: 'it returns false'. Refute it at one input. -/
def laneApartWrong : ChangeSpec := { name := "laneApart", fn := fun _ => fun
  | [d1, d2] => { results := [.lit (.bool false)], args := [d1, d2] }
  | _ => none }
def LaneApartWrongFalsely : Prop := laneApartRow.holds Try.pinned (OpenSpec.ofChange laneApartWrong)

/-- 'plaitinglaw7.LaneIdle': WHATEVER THE INPUT: true; the input reads as it did. -/
def laneIdleSpec : ChangeSpec := { name := "laneIdle", fn := fun _ => fun
  | [d1, d2, d3] => { results := [.lit (.bool true)], args := [d1, d2, d3] }
  | _ => none }
def laneIdleRow : OpenClaim := { program := "ytaekdfjecokpmaa", sum := "4949cdc93d2a14c18e7a6a44bfe5c9638a55d81342695cda0530230f82d6a59e", func := "plaiting/plaitinglaw7.LaneIdle", spec := "laneIdle", unfollowed := true, recurses := true, apart := false }
def LaneIdleSaid : Prop := laneIdleRow.holds Try.pinned (OpenSpec.ofChange laneIdleSpec)

/-- ITS FALSE NEIGHBOUR: 'it returns false'. Refute it at one input. -/
def laneIdleWrong : ChangeSpec := { name := "laneIdle", fn := fun _ => fun
  | [d1, d2, d3] => { results := [.lit (.bool false)], args := [d1, d2, d3] }
  | _ => none }
def LaneIdleWrongFalsely : Prop := laneIdleRow.holds Try.pinned (OpenSpec.ofChange laneIdleWrong)

/- THE SECOND FORM. 'bulk': how many values and letters a reading holds, each counted each time it is reached (what is shared counts as often as it is met; a slice's spare places count too). A statement '..UptoSaid' is the law's where the arguments, and the package variables that the reading takes, are together of bulk at most 1048576: NARROWER than '..Said'. Prove '..Said' where nothing that the law and all that it calls make is longer than what came in: it says more and counts as full. Else prove '..UptoSaid'. A law counts once. -/
mutual
def uptoBulk {H : Type} : DataW H → Nat
  | .lit (.string bytes) => bytes.length + 1
  | .lit _ => 1
  | .nil => 1
  | .ptr d => uptoBulk d + 1
  | .slice elems spare => uptoBulkAll elems + uptoBulkAll spare + 1
  | .agg parts => uptoBulkAll parts + 1
  | .iface _ d => uptoBulk d + 1
  | .map entries => uptoBulkEntries entries + 1
  | .held _ => 1
def uptoBulkAll {H : Type} : List (DataW H) → Nat
  | [] => 0
  | d :: r => uptoBulk d + uptoBulkAll r
def uptoBulkEntries {H : Type} : List (Lit × DataW H) → Nat
  | [] => 0
  | x :: r => uptoBulkEntry x + uptoBulkEntries r
def uptoBulkEntry {H : Type} : Lit × DataW H → Nat
  | (.string bytes, d) => bytes.length + uptoBulk d + 1
  | (_, d) => uptoBulk d + 1
 end
def uptoSmall : (H : Type) → List (DataW H) → Bool := fun _ ds => decide (uptoBulkAll ds ≤ 1048576)
def OpenSpec.upto (s : _root_.Go.ChangeSpec) : _root_.Go.OpenSpec := { _root_.Go.OpenSpec.ofChange s with cond := some uptoSmall }

/-- 'plaitinglaw7.LaneOut', WHERE WHAT IT READS IS OF BULK AT MOST 1048576: true; the input reads as it did. -/
def laneOutUptoRow : OpenClaim := { program := "ytaekdfjecokpmaa", sum := "4949cdc93d2a14c18e7a6a44bfe5c9638a55d81342695cda0530230f82d6a59e", func := "plaiting/plaitinglaw7.LaneOut", spec := "laneOut", unfollowed := true, recurses := true, apart := false, narrowed := true }
def LaneOutUptoSaid : Prop := laneOutUptoRow.holds Try.pinned (OpenSpec.upto laneOutSpec)

/-- 'plaitinglaw7.LaneSteps', WHERE WHAT IT READS IS OF BULK AT MOST 1048576: true; the input reads as it did. -/
def laneStepsUptoRow : OpenClaim := { program := "ytaekdfjecokpmaa", sum := "4949cdc93d2a14c18e7a6a44bfe5c9638a55d81342695cda0530230f82d6a59e", func := "plaiting/plaitinglaw7.LaneSteps", spec := "laneSteps", unfollowed := true, recurses := true, apart := false, narrowed := true }
def LaneStepsUptoSaid : Prop := laneStepsUptoRow.holds Try.pinned (OpenSpec.upto laneStepsSpec)

/-- 'plaitinglaw7.LaneFronts', WHERE WHAT IT READS IS OF BULK AT MOST 1048576: true; the input reads as it did. -/
def laneFrontsUptoRow : OpenClaim := { program := "ytaekdfjecokpmaa", sum := "4949cdc93d2a14c18e7a6a44bfe5c9638a55d81342695cda0530230f82d6a59e", func := "plaiting/plaitinglaw7.LaneFronts", spec := "laneFronts", unfollowed := true, recurses := true, apart := false, narrowed := true }
def LaneFrontsUptoSaid : Prop := laneFrontsUptoRow.holds Try.pinned (OpenSpec.upto laneFrontsSpec)

/-- 'plaitinglaw7.LaneThree', WHERE WHAT IT READS IS OF BULK AT MOST 1048576: true; the input reads as it did. -/
def laneThreeUptoRow : OpenClaim := { program := "ytaekdfjecokpmaa", sum := "4949cdc93d2a14c18e7a6a44bfe5c9638a55d81342695cda0530230f82d6a59e", func := "plaiting/plaitinglaw7.LaneThree", spec := "laneThree", unfollowed := true, recurses := true, apart := false, narrowed := true }
def LaneThreeUptoSaid : Prop := laneThreeUptoRow.holds Try.pinned (OpenSpec.upto laneThreeSpec)

/-- 'plaitinglaw7.LaneApart', WHERE WHAT IT READS IS OF BULK AT MOST 1048576: true; the input reads as it did. -/
def laneApartUptoRow : OpenClaim := { program := "ytaekdfjecokpmaa", sum := "4949cdc93d2a14c18e7a6a44bfe5c9638a55d81342695cda0530230f82d6a59e", func := "plaiting/plaitinglaw7.LaneApart", spec := "laneApart", unfollowed := true, recurses := true, apart := false, narrowed := true }
def LaneApartUptoSaid : Prop := laneApartUptoRow.holds Try.pinned (OpenSpec.upto laneApartSpec)

/-- 'plaitinglaw7.LaneIdle', WHERE WHAT IT READS IS OF BULK AT MOST 1048576: true; the input reads as it did. -/
def laneIdleUptoRow : OpenClaim := { program := "ytaekdfjecokpmaa", sum := "4949cdc93d2a14c18e7a6a44bfe5c9638a55d81342695cda0530230f82d6a59e", func := "plaiting/plaitinglaw7.LaneIdle", spec := "laneIdle", unfollowed := true, recurses := true, apart := false, narrowed := true }
def LaneIdleUptoSaid : Prop := laneIdleUptoRow.holds Try.pinned (OpenSpec.upto laneIdleSpec)

end Rows
end Go.Proofs.Ytaekdfjecokpmaa
