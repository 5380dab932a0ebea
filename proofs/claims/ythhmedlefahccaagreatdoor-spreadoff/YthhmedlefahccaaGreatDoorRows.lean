/-
  NARROWER THAN 'FOR EVERY INPUT', by the rows' own cells (each row's printed sentence says how): SpreadAll: laid · SpreadContained: laid · SpreadReaches: laid · SpreadPairs: laid · SpreadCalm: laid · SpreadCut: laid · SpreadLink: laid · SpreadOff: laid · SpreadGuard: laid · SpreadBabble: laid · SpreadOwner: laid · SpreadMirror: laid.
  DERIVED. THE GIVEN ROWS OF THIS SEAT. 12 by the template 'for every input the law returns true; each argument reads behind the call as it read before'; 0 by the template 'total and deterministic' (their statements: YthhmedlefahccaaGreatDoorTotals.lean).
  GIVEN WITH THE SEED: the statements are not yours to turn. If you find one false, say at which input.
  Laid BY PROGRAM, IN A SANDBOX (cutbox-rows.mjs): the forced cells as the released guide's own fill.sh prints them over the translation 8c5573fa89595ad8… (all of the seat's roots in one cut). By AI agents, Wed Nov 11 2026. No macro, syntax, notation, axiom, sorry.
-/
import Derived.Test.YthhmedlefahccaaGreatDoorChecked
import GoSem.Claim
import GoSem.ClaimJoined
import GoSem.ClaimMapViews
import Derived.JoinedTies
import Derived.KernelRfl
namespace Go.Proofs.YthhmedlefahccaaGreatDoor
/- THE CELL 'sum', in the pinned program and in every row, IS THE sha256 OF THE DUMP (.gsa) THAT YthhmedlefahccaaGreatDoorProg.lean LOADS. Nothing in Lean hashes anything: it is a label: what it is worth is what the hold of that sum in a sandbox is worth. -/
noncomputable def Tryz.pinned : Pinned := { name := "ythhmedlefahccaagreatdoor", sum := "8c5573fa89595ad8892ed29c39d5cd663f6a85a682fb60eae13633fdcf119a92", checked := Tryz.checked }
namespace Rows
def none {H : Type} : Left H := { results := [], args := [] }

/- WHAT THE LISTED PACKAGE-LEVEL VARIABLES READ AS WHEN THE CALL BEGINS. Each datum BY PROGRAM (the guide's laid-datum.mjs) off the statement by which the dump's own 'gosem.cut.vars' lays the variable. In a bare row this is a premise. The card (YthhmedlefahccaaGreatDoorCards.lean) ties it to the program's text. -/
def laid_plaiting_conf_bounds {H : Type} : DataW H := .agg [.agg [.lit (.int .i64 6), .lit (.int .i64 12)], .agg [.lit (.int .i64 0), .lit (.int .i64 100)], .agg [.lit (.int .i64 0), .lit (.int .i64 100)], .agg [.lit (.int .i64 0), .lit (.int .i64 65535)]]

/-- 'plaitinglaw9.SpreadAll': WHATEVER THE INPUT: true; the input reads as it did. -/
def spreadAllSpec : ChangeSpec := { name := "spreadAll", fn := fun _ => fun
  | [d1, d2, d3, d4, d5, d6, d7, d8] => { results := [.lit (.bool true)], args := [d1, d2, d3, d4, d5, d6, d7, d8] }
  | _ => none }
def spreadAllRow : OpenClaim := { program := "ythhmedlefahccaagreatdoor", sum := "8c5573fa89595ad8892ed29c39d5cd663f6a85a682fb60eae13633fdcf119a92", func := "plaiting/plaitinglaw9.SpreadAll", spec := "spreadAll", inPlace := ["internal/abi.NoEscape"], unfollowed := true, recurses := true, named := ["plaiting/conf.bounds"], apart := false, laid := [("plaiting/conf.bounds", laid_plaiting_conf_bounds)] }
def SpreadAllSaid : Prop := spreadAllRow.holds Tryz.pinned (OpenSpec.ofChange spreadAllSpec)

/-- ITS FALSE NEIGHBOUR: 'it returns false'. Refute it at one input. -/
def spreadAllWrong : ChangeSpec := { name := "spreadAll", fn := fun _ => fun
  | [d1, d2, d3, d4, d5, d6, d7, d8] => { results := [.lit (.bool false)], args := [d1, d2, d3, d4, d5, d6, d7, d8] }
  | _ => none }
def SpreadAllWrongFalsely : Prop := spreadAllRow.holds Tryz.pinned (OpenSpec.ofChange spreadAllWrong)

/-- 'plaitinglaw9.SpreadContained': WHATEVER THE INPUT: true; the input reads as it did. -/
def spreadContainedSpec : ChangeSpec := { name := "spreadContained", fn := fun _ => fun
  | [d1, d2, d3, d4, d5, d6, d7] => { results := [.lit (.bool true)], args := [d1, d2, d3, d4, d5, d6, d7] }
  | _ => none }
def spreadContainedRow : OpenClaim := { program := "ythhmedlefahccaagreatdoor", sum := "8c5573fa89595ad8892ed29c39d5cd663f6a85a682fb60eae13633fdcf119a92", func := "plaiting/plaitinglaw9.SpreadContained", spec := "spreadContained", inPlace := ["internal/abi.NoEscape"], unfollowed := true, recurses := true, named := ["plaiting/conf.bounds"], apart := false, laid := [("plaiting/conf.bounds", laid_plaiting_conf_bounds)] }
def SpreadContainedSaid : Prop := spreadContainedRow.holds Tryz.pinned (OpenSpec.ofChange spreadContainedSpec)

/-- ITS FALSE NEIGHBOUR: 'it returns false'. Refute it at one input. -/
def spreadContainedWrong : ChangeSpec := { name := "spreadContained", fn := fun _ => fun
  | [d1, d2, d3, d4, d5, d6, d7] => { results := [.lit (.bool false)], args := [d1, d2, d3, d4, d5, d6, d7] }
  | _ => none }
def SpreadContainedWrongFalsely : Prop := spreadContainedRow.holds Tryz.pinned (OpenSpec.ofChange spreadContainedWrong)

/-- 'plaitinglaw9.SpreadReaches': WHATEVER THE INPUT: true; the input reads as it did. -/
def spreadReachesSpec : ChangeSpec := { name := "spreadReaches", fn := fun _ => fun
  | [d1, d2, d3, d4, d5, d6] => { results := [.lit (.bool true)], args := [d1, d2, d3, d4, d5, d6] }
  | _ => none }
def spreadReachesRow : OpenClaim := { program := "ythhmedlefahccaagreatdoor", sum := "8c5573fa89595ad8892ed29c39d5cd663f6a85a682fb60eae13633fdcf119a92", func := "plaiting/plaitinglaw9.SpreadReaches", spec := "spreadReaches", inPlace := ["internal/abi.NoEscape"], unfollowed := true, recurses := true, named := ["plaiting/conf.bounds"], apart := false, laid := [("plaiting/conf.bounds", laid_plaiting_conf_bounds)] }
def SpreadReachesSaid : Prop := spreadReachesRow.holds Tryz.pinned (OpenSpec.ofChange spreadReachesSpec)

/-- ITS FALSE NEIGHBOUR: 'it returns false'. Refute it at one input. -/
def spreadReachesWrong : ChangeSpec := { name := "spreadReaches", fn := fun _ => fun
  | [d1, d2, d3, d4, d5, d6] => { results := [.lit (.bool false)], args := [d1, d2, d3, d4, d5, d6] }
  | _ => none }
def SpreadReachesWrongFalsely : Prop := spreadReachesRow.holds Tryz.pinned (OpenSpec.ofChange spreadReachesWrong)

/-- 'plaitinglaw9.SpreadPairs': WHATEVER THE INPUT: true; the input reads as it did. -/
def spreadPairsSpec : ChangeSpec := { name := "spreadPairs", fn := fun _ => fun
  | [d1, d2, d3, d4, d5, d6, d7] => { results := [.lit (.bool true)], args := [d1, d2, d3, d4, d5, d6, d7] }
  | _ => none }
def spreadPairsRow : OpenClaim := { program := "ythhmedlefahccaagreatdoor", sum := "8c5573fa89595ad8892ed29c39d5cd663f6a85a682fb60eae13633fdcf119a92", func := "plaiting/plaitinglaw9.SpreadPairs", spec := "spreadPairs", inPlace := ["internal/abi.NoEscape"], unfollowed := true, recurses := true, named := ["plaiting/conf.bounds"], apart := false, laid := [("plaiting/conf.bounds", laid_plaiting_conf_bounds)] }
def SpreadPairsSaid : Prop := spreadPairsRow.holds Tryz.pinned (OpenSpec.ofChange spreadPairsSpec)

/-- ITS FALSE NEIGHBOUR: 'it returns false'. Refute it at one input. -/
def spreadPairsWrong : ChangeSpec := { name := "spreadPairs", fn := fun _ => fun
  | [d1, d2, d3, d4, d5, d6, d7] => { results := [.lit (.bool false)], args := [d1, d2, d3, d4, d5, d6, d7] }
  | _ => none }
def SpreadPairsWrongFalsely : Prop := spreadPairsRow.holds Tryz.pinned (OpenSpec.ofChange spreadPairsWrong)

/-- 'plaitinglaw9.SpreadCalm': WHATEVER THE INPUT: true; the input reads as it did. -/
def spreadCalmSpec : ChangeSpec := { name := "spreadCalm", fn := fun _ => fun
  | [d1, d2, d3, d4, d5] => { results := [.lit (.bool true)], args := [d1, d2, d3, d4, d5] }
  | _ => none }
def spreadCalmRow : OpenClaim := { program := "ythhmedlefahccaagreatdoor", sum := "8c5573fa89595ad8892ed29c39d5cd663f6a85a682fb60eae13633fdcf119a92", func := "plaiting/plaitinglaw9.SpreadCalm", spec := "spreadCalm", inPlace := ["internal/abi.NoEscape"], unfollowed := true, recurses := true, named := ["plaiting/conf.bounds"], apart := false, laid := [("plaiting/conf.bounds", laid_plaiting_conf_bounds)] }
def SpreadCalmSaid : Prop := spreadCalmRow.holds Tryz.pinned (OpenSpec.ofChange spreadCalmSpec)

/-- ITS FALSE NEIGHBOUR: 'it returns false'. Refute it at one input. -/
def spreadCalmWrong : ChangeSpec := { name := "spreadCalm", fn := fun _ => fun
  | [d1, d2, d3, d4, d5] => { results := [.lit (.bool false)], args := [d1, d2, d3, d4, d5] }
  | _ => none }
def SpreadCalmWrongFalsely : Prop := spreadCalmRow.holds Tryz.pinned (OpenSpec.ofChange spreadCalmWrong)

/-- 'plaitinglaw9.SpreadCut': WHATEVER THE INPUT: true; the input reads as it did. -/
def spreadCutSpec : ChangeSpec := { name := "spreadCut", fn := fun _ => fun
  | [d1, d2, d3, d4, d5, d6] => { results := [.lit (.bool true)], args := [d1, d2, d3, d4, d5, d6] }
  | _ => none }
def spreadCutRow : OpenClaim := { program := "ythhmedlefahccaagreatdoor", sum := "8c5573fa89595ad8892ed29c39d5cd663f6a85a682fb60eae13633fdcf119a92", func := "plaiting/plaitinglaw9.SpreadCut", spec := "spreadCut", inPlace := ["internal/abi.NoEscape"], unfollowed := true, recurses := true, named := ["plaiting/conf.bounds"], apart := false, laid := [("plaiting/conf.bounds", laid_plaiting_conf_bounds)] }
def SpreadCutSaid : Prop := spreadCutRow.holds Tryz.pinned (OpenSpec.ofChange spreadCutSpec)

/-- ITS FALSE NEIGHBOUR: 'it returns false'. Refute it at one input. -/
def spreadCutWrong : ChangeSpec := { name := "spreadCut", fn := fun _ => fun
  | [d1, d2, d3, d4, d5, d6] => { results := [.lit (.bool false)], args := [d1, d2, d3, d4, d5, d6] }
  | _ => none }
def SpreadCutWrongFalsely : Prop := spreadCutRow.holds Tryz.pinned (OpenSpec.ofChange spreadCutWrong)

/-- 'plaitinglaw9.SpreadLink': WHATEVER THE INPUT: true; the input reads as it did. -/
def spreadLinkSpec : ChangeSpec := { name := "spreadLink", fn := fun _ => fun
  | [d1, d2, d3, d4, d5] => { results := [.lit (.bool true)], args := [d1, d2, d3, d4, d5] }
  | _ => none }
def spreadLinkRow : OpenClaim := { program := "ythhmedlefahccaagreatdoor", sum := "8c5573fa89595ad8892ed29c39d5cd663f6a85a682fb60eae13633fdcf119a92", func := "plaiting/plaitinglaw9.SpreadLink", spec := "spreadLink", inPlace := ["internal/abi.NoEscape"], unfollowed := true, recurses := true, named := ["plaiting/conf.bounds"], apart := false, laid := [("plaiting/conf.bounds", laid_plaiting_conf_bounds)] }
def SpreadLinkSaid : Prop := spreadLinkRow.holds Tryz.pinned (OpenSpec.ofChange spreadLinkSpec)

/-- ITS FALSE NEIGHBOUR: 'it returns false'. Refute it at one input. -/
def spreadLinkWrong : ChangeSpec := { name := "spreadLink", fn := fun _ => fun
  | [d1, d2, d3, d4, d5] => { results := [.lit (.bool false)], args := [d1, d2, d3, d4, d5] }
  | _ => none }
def SpreadLinkWrongFalsely : Prop := spreadLinkRow.holds Tryz.pinned (OpenSpec.ofChange spreadLinkWrong)

/-- 'plaitinglaw9.SpreadOff': WHATEVER THE INPUT: true; the input reads as it did. -/
def spreadOffSpec : ChangeSpec := { name := "spreadOff", fn := fun _ => fun
  | [d1, d2, d3, d4, d5, d6] => { results := [.lit (.bool true)], args := [d1, d2, d3, d4, d5, d6] }
  | _ => none }
def spreadOffRow : OpenClaim := { program := "ythhmedlefahccaagreatdoor", sum := "8c5573fa89595ad8892ed29c39d5cd663f6a85a682fb60eae13633fdcf119a92", func := "plaiting/plaitinglaw9.SpreadOff", spec := "spreadOff", inPlace := ["internal/abi.NoEscape"], unfollowed := true, recurses := true, named := ["plaiting/conf.bounds"], apart := false, laid := [("plaiting/conf.bounds", laid_plaiting_conf_bounds)] }
def SpreadOffSaid : Prop := spreadOffRow.holds Tryz.pinned (OpenSpec.ofChange spreadOffSpec)

/-- ITS FALSE NEIGHBOUR: 'it returns false'. Refute it at one input. -/
def spreadOffWrong : ChangeSpec := { name := "spreadOff", fn := fun _ => fun
  | [d1, d2, d3, d4, d5, d6] => { results := [.lit (.bool false)], args := [d1, d2, d3, d4, d5, d6] }
  | _ => none }
def SpreadOffWrongFalsely : Prop := spreadOffRow.holds Tryz.pinned (OpenSpec.ofChange spreadOffWrong)

/-- 'plaitinglaw9.SpreadGuard': WHATEVER THE INPUT: true; the input reads as it did. -/
def spreadGuardSpec : ChangeSpec := { name := "spreadGuard", fn := fun _ => fun
  | [d1, d2, d3, d4, d5, d6, d7, d8] => { results := [.lit (.bool true)], args := [d1, d2, d3, d4, d5, d6, d7, d8] }
  | _ => none }
def spreadGuardRow : OpenClaim := { program := "ythhmedlefahccaagreatdoor", sum := "8c5573fa89595ad8892ed29c39d5cd663f6a85a682fb60eae13633fdcf119a92", func := "plaiting/plaitinglaw9.SpreadGuard", spec := "spreadGuard", inPlace := ["internal/abi.NoEscape"], unfollowed := true, recurses := true, named := ["plaiting/conf.bounds"], apart := false, laid := [("plaiting/conf.bounds", laid_plaiting_conf_bounds)] }
def SpreadGuardSaid : Prop := spreadGuardRow.holds Tryz.pinned (OpenSpec.ofChange spreadGuardSpec)

/-- ITS FALSE NEIGHBOUR: 'it returns false'. Refute it at one input. -/
def spreadGuardWrong : ChangeSpec := { name := "spreadGuard", fn := fun _ => fun
  | [d1, d2, d3, d4, d5, d6, d7, d8] => { results := [.lit (.bool false)], args := [d1, d2, d3, d4, d5, d6, d7, d8] }
  | _ => none }
def SpreadGuardWrongFalsely : Prop := spreadGuardRow.holds Tryz.pinned (OpenSpec.ofChange spreadGuardWrong)

/-- 'plaitinglaw9.SpreadBabble': WHATEVER THE INPUT: true; the input reads as it did. -/
def spreadBabbleSpec : ChangeSpec := { name := "spreadBabble", fn := fun _ => fun
  | [d1, d2, d3, d4, d5, d6] => { results := [.lit (.bool true)], args := [d1, d2, d3, d4, d5, d6] }
  | _ => none }
def spreadBabbleRow : OpenClaim := { program := "ythhmedlefahccaagreatdoor", sum := "8c5573fa89595ad8892ed29c39d5cd663f6a85a682fb60eae13633fdcf119a92", func := "plaiting/plaitinglaw9.SpreadBabble", spec := "spreadBabble", inPlace := ["internal/abi.NoEscape"], unfollowed := true, recurses := true, named := ["plaiting/conf.bounds"], apart := false, laid := [("plaiting/conf.bounds", laid_plaiting_conf_bounds)] }
def SpreadBabbleSaid : Prop := spreadBabbleRow.holds Tryz.pinned (OpenSpec.ofChange spreadBabbleSpec)

/-- ITS FALSE NEIGHBOUR: 'it returns false'. Refute it at one input. -/
def spreadBabbleWrong : ChangeSpec := { name := "spreadBabble", fn := fun _ => fun
  | [d1, d2, d3, d4, d5, d6] => { results := [.lit (.bool false)], args := [d1, d2, d3, d4, d5, d6] }
  | _ => none }
def SpreadBabbleWrongFalsely : Prop := spreadBabbleRow.holds Tryz.pinned (OpenSpec.ofChange spreadBabbleWrong)

/-- 'plaitinglaw9.SpreadOwner': WHATEVER THE INPUT: true; the input reads as it did. -/
def spreadOwnerSpec : ChangeSpec := { name := "spreadOwner", fn := fun _ => fun
  | [d1, d2, d3, d4, d5, d6, d7] => { results := [.lit (.bool true)], args := [d1, d2, d3, d4, d5, d6, d7] }
  | _ => none }
def spreadOwnerRow : OpenClaim := { program := "ythhmedlefahccaagreatdoor", sum := "8c5573fa89595ad8892ed29c39d5cd663f6a85a682fb60eae13633fdcf119a92", func := "plaiting/plaitinglaw9.SpreadOwner", spec := "spreadOwner", inPlace := ["internal/abi.NoEscape"], unfollowed := true, recurses := true, named := ["plaiting/conf.bounds"], apart := false, laid := [("plaiting/conf.bounds", laid_plaiting_conf_bounds)] }
def SpreadOwnerSaid : Prop := spreadOwnerRow.holds Tryz.pinned (OpenSpec.ofChange spreadOwnerSpec)

/-- ITS FALSE NEIGHBOUR: 'it returns false'. Refute it at one input. -/
def spreadOwnerWrong : ChangeSpec := { name := "spreadOwner", fn := fun _ => fun
  | [d1, d2, d3, d4, d5, d6, d7] => { results := [.lit (.bool false)], args := [d1, d2, d3, d4, d5, d6, d7] }
  | _ => none }
def SpreadOwnerWrongFalsely : Prop := spreadOwnerRow.holds Tryz.pinned (OpenSpec.ofChange spreadOwnerWrong)

/-- 'plaitinglaw9.SpreadMirror': WHATEVER THE INPUT: true; the input reads as it did. -/
def spreadMirrorSpec : ChangeSpec := { name := "spreadMirror", fn := fun _ => fun
  | [d1, d2, d3, d4, d5, d6, d7] => { results := [.lit (.bool true)], args := [d1, d2, d3, d4, d5, d6, d7] }
  | _ => none }
def spreadMirrorRow : OpenClaim := { program := "ythhmedlefahccaagreatdoor", sum := "8c5573fa89595ad8892ed29c39d5cd663f6a85a682fb60eae13633fdcf119a92", func := "plaiting/plaitinglaw9.SpreadMirror", spec := "spreadMirror", inPlace := ["internal/abi.NoEscape"], unfollowed := true, recurses := true, named := ["plaiting/conf.bounds"], apart := false, laid := [("plaiting/conf.bounds", laid_plaiting_conf_bounds)] }
def SpreadMirrorSaid : Prop := spreadMirrorRow.holds Tryz.pinned (OpenSpec.ofChange spreadMirrorSpec)

/-- ITS FALSE NEIGHBOUR: 'it returns false'. Refute it at one input. -/
def spreadMirrorWrong : ChangeSpec := { name := "spreadMirror", fn := fun _ => fun
  | [d1, d2, d3, d4, d5, d6, d7] => { results := [.lit (.bool false)], args := [d1, d2, d3, d4, d5, d6, d7] }
  | _ => none }
def SpreadMirrorWrongFalsely : Prop := spreadMirrorRow.holds Tryz.pinned (OpenSpec.ofChange spreadMirrorWrong)

/- THE SECOND FORM. 'bulk': how many values and letters a reading holds, each counted each time it is reached (what is shared counts as often as it is met; a slice's spare places count too). A statement '..UptoSaid' is the law's where the arguments, and the package variables that the reading takes, are together of bulk at most 1048576: NARROWER than '..Said'. Prove '..Said' where nothing that the law and all that it calls make is longer than what came in: it says more and counts as full. Else prove '..UptoSaid'. A law counts once. -/
mutual
def uptoBulk {H : Type} : DataW H → Nat
  | .lit (.string bytes) => bytes.length + 1
  | .lit _ => 1
  | .nil => 1
  | .ptr d => uptoBulk d + 1
  | .slice elems spare => uptoBulkAll elems + uptoBulkAll spare + 1
  | .agg parts => uptoBulkAll parts + 1
  | .iface _ d => uptoBulk d + 1
  | .map entries => uptoBulkEntries entries + 1
  | .held _ => 1
def uptoBulkAll {H : Type} : List (DataW H) → Nat
  | [] => 0
  | d :: r => uptoBulk d + uptoBulkAll r
def uptoBulkEntries {H : Type} : List (Lit × DataW H) → Nat
  | [] => 0
  | x :: r => uptoBulkEntry x + uptoBulkEntries r
def uptoBulkEntry {H : Type} : Lit × DataW H → Nat
  | (.string bytes, d) => bytes.length + uptoBulk d + 1
  | (_, d) => uptoBulk d + 1
 end
def uptoSmall : (H : Type) → List (DataW H) → Bool := fun _ ds => decide (uptoBulkAll ds ≤ 1048576)
def OpenSpec.upto (s : _root_.Go.ChangeSpec) : _root_.Go.OpenSpec := { _root_.Go.OpenSpec.ofChange s with cond := some uptoSmall }

/-- 'plaitinglaw9.SpreadAll', WHERE WHAT IT READS IS OF BULK AT MOST 1048576: true; the input reads as it did. -/
def spreadAllUptoRow : OpenClaim := { program := "ythhmedlefahccaagreatdoor", sum := "8c5573fa89595ad8892ed29c39d5cd663f6a85a682fb60eae13633fdcf119a92", func := "plaiting/plaitinglaw9.SpreadAll", spec := "spreadAll", inPlace := ["internal/abi.NoEscape"], unfollowed := true, recurses := true, named := ["plaiting/conf.bounds"], apart := false, laid := [("plaiting/conf.bounds", laid_plaiting_conf_bounds)], narrowed := true }
def SpreadAllUptoSaid : Prop := spreadAllUptoRow.holds Tryz.pinned (OpenSpec.upto spreadAllSpec)

/-- 'plaitinglaw9.SpreadContained', WHERE WHAT IT READS IS OF BULK AT MOST 1048576: true; the input reads as it did. -/
def spreadContainedUptoRow : OpenClaim := { program := "ythhmedlefahccaagreatdoor", sum := "8c5573fa89595ad8892ed29c39d5cd663f6a85a682fb60eae13633fdcf119a92", func := "plaiting/plaitinglaw9.SpreadContained", spec := "spreadContained", inPlace := ["internal/abi.NoEscape"], unfollowed := true, recurses := true, named := ["plaiting/conf.bounds"], apart := false, laid := [("plaiting/conf.bounds", laid_plaiting_conf_bounds)], narrowed := true }
def SpreadContainedUptoSaid : Prop := spreadContainedUptoRow.holds Tryz.pinned (OpenSpec.upto spreadContainedSpec)

/-- 'plaitinglaw9.SpreadReaches', WHERE WHAT IT READS IS OF BULK AT MOST 1048576: true; the input reads as it did. -/
def spreadReachesUptoRow : OpenClaim := { program := "ythhmedlefahccaagreatdoor", sum := "8c5573fa89595ad8892ed29c39d5cd663f6a85a682fb60eae13633fdcf119a92", func := "plaiting/plaitinglaw9.SpreadReaches", spec := "spreadReaches", inPlace := ["internal/abi.NoEscape"], unfollowed := true, recurses := true, named := ["plaiting/conf.bounds"], apart := false, laid := [("plaiting/conf.bounds", laid_plaiting_conf_bounds)], narrowed := true }
def SpreadReachesUptoSaid : Prop := spreadReachesUptoRow.holds Tryz.pinned (OpenSpec.upto spreadReachesSpec)

/-- 'plaitinglaw9.SpreadPairs', WHERE WHAT IT READS IS OF BULK AT MOST 1048576: true; the input reads as it did. -/
def spreadPairsUptoRow : OpenClaim := { program := "ythhmedlefahccaagreatdoor", sum := "8c5573fa89595ad8892ed29c39d5cd663f6a85a682fb60eae13633fdcf119a92", func := "plaiting/plaitinglaw9.SpreadPairs", spec := "spreadPairs", inPlace := ["internal/abi.NoEscape"], unfollowed := true, recurses := true, named := ["plaiting/conf.bounds"], apart := false, laid := [("plaiting/conf.bounds", laid_plaiting_conf_bounds)], narrowed := true }
def SpreadPairsUptoSaid : Prop := spreadPairsUptoRow.holds Tryz.pinned (OpenSpec.upto spreadPairsSpec)

/-- 'plaitinglaw9.SpreadCalm', WHERE WHAT IT READS IS OF BULK AT MOST 1048576: true; the input reads as it did. -/
def spreadCalmUptoRow : OpenClaim := { program := "ythhmedlefahccaagreatdoor", sum := "8c5573fa89595ad8892ed29c39d5cd663f6a85a682fb60eae13633fdcf119a92", func := "plaiting/plaitinglaw9.SpreadCalm", spec := "spreadCalm", inPlace := ["internal/abi.NoEscape"], unfollowed := true, recurses := true, named := ["plaiting/conf.bounds"], apart := false, laid := [("plaiting/conf.bounds", laid_plaiting_conf_bounds)], narrowed := true }
def SpreadCalmUptoSaid : Prop := spreadCalmUptoRow.holds Tryz.pinned (OpenSpec.upto spreadCalmSpec)

/-- 'plaitinglaw9.SpreadCut', WHERE WHAT IT READS IS OF BULK AT MOST 1048576: true; the input reads as it did. -/
def spreadCutUptoRow : OpenClaim := { program := "ythhmedlefahccaagreatdoor", sum := "8c5573fa89595ad8892ed29c39d5cd663f6a85a682fb60eae13633fdcf119a92", func := "plaiting/plaitinglaw9.SpreadCut", spec := "spreadCut", inPlace := ["internal/abi.NoEscape"], unfollowed := true, recurses := true, named := ["plaiting/conf.bounds"], apart := false, laid := [("plaiting/conf.bounds", laid_plaiting_conf_bounds)], narrowed := true }
def SpreadCutUptoSaid : Prop := spreadCutUptoRow.holds Tryz.pinned (OpenSpec.upto spreadCutSpec)

/-- 'plaitinglaw9.SpreadLink', WHERE WHAT IT READS IS OF BULK AT MOST 1048576: true; the input reads as it did. -/
def spreadLinkUptoRow : OpenClaim := { program := "ythhmedlefahccaagreatdoor", sum := "8c5573fa89595ad8892ed29c39d5cd663f6a85a682fb60eae13633fdcf119a92", func := "plaiting/plaitinglaw9.SpreadLink", spec := "spreadLink", inPlace := ["internal/abi.NoEscape"], unfollowed := true, recurses := true, named := ["plaiting/conf.bounds"], apart := false, laid := [("plaiting/conf.bounds", laid_plaiting_conf_bounds)], narrowed := true }
def SpreadLinkUptoSaid : Prop := spreadLinkUptoRow.holds Tryz.pinned (OpenSpec.upto spreadLinkSpec)

/-- 'plaitinglaw9.SpreadOff', WHERE WHAT IT READS IS OF BULK AT MOST 1048576: true; the input reads as it did. -/
def spreadOffUptoRow : OpenClaim := { program := "ythhmedlefahccaagreatdoor", sum := "8c5573fa89595ad8892ed29c39d5cd663f6a85a682fb60eae13633fdcf119a92", func := "plaiting/plaitinglaw9.SpreadOff", spec := "spreadOff", inPlace := ["internal/abi.NoEscape"], unfollowed := true, recurses := true, named := ["plaiting/conf.bounds"], apart := false, laid := [("plaiting/conf.bounds", laid_plaiting_conf_bounds)], narrowed := true }
def SpreadOffUptoSaid : Prop := spreadOffUptoRow.holds Tryz.pinned (OpenSpec.upto spreadOffSpec)

/-- 'plaitinglaw9.SpreadGuard', WHERE WHAT IT READS IS OF BULK AT MOST 1048576: true; the input reads as it did. -/
def spreadGuardUptoRow : OpenClaim := { program := "ythhmedlefahccaagreatdoor", sum := "8c5573fa89595ad8892ed29c39d5cd663f6a85a682fb60eae13633fdcf119a92", func := "plaiting/plaitinglaw9.SpreadGuard", spec := "spreadGuard", inPlace := ["internal/abi.NoEscape"], unfollowed := true, recurses := true, named := ["plaiting/conf.bounds"], apart := false, laid := [("plaiting/conf.bounds", laid_plaiting_conf_bounds)], narrowed := true }
def SpreadGuardUptoSaid : Prop := spreadGuardUptoRow.holds Tryz.pinned (OpenSpec.upto spreadGuardSpec)

/-- 'plaitinglaw9.SpreadBabble', WHERE WHAT IT READS IS OF BULK AT MOST 1048576: true; the input reads as it did. -/
def spreadBabbleUptoRow : OpenClaim := { program := "ythhmedlefahccaagreatdoor", sum := "8c5573fa89595ad8892ed29c39d5cd663f6a85a682fb60eae13633fdcf119a92", func := "plaiting/plaitinglaw9.SpreadBabble", spec := "spreadBabble", inPlace := ["internal/abi.NoEscape"], unfollowed := true, recurses := true, named := ["plaiting/conf.bounds"], apart := false, laid := [("plaiting/conf.bounds", laid_plaiting_conf_bounds)], narrowed := true }
def SpreadBabbleUptoSaid : Prop := spreadBabbleUptoRow.holds Tryz.pinned (OpenSpec.upto spreadBabbleSpec)

/-- 'plaitinglaw9.SpreadOwner', WHERE WHAT IT READS IS OF BULK AT MOST 1048576: true; the input reads as it did. -/
def spreadOwnerUptoRow : OpenClaim := { program := "ythhmedlefahccaagreatdoor", sum := "8c5573fa89595ad8892ed29c39d5cd663f6a85a682fb60eae13633fdcf119a92", func := "plaiting/plaitinglaw9.SpreadOwner", spec := "spreadOwner", inPlace := ["internal/abi.NoEscape"], unfollowed := true, recurses := true, named := ["plaiting/conf.bounds"], apart := false, laid := [("plaiting/conf.bounds", laid_plaiting_conf_bounds)], narrowed := true }
def SpreadOwnerUptoSaid : Prop := spreadOwnerUptoRow.holds Tryz.pinned (OpenSpec.upto spreadOwnerSpec)

/-- 'plaitinglaw9.SpreadMirror', WHERE WHAT IT READS IS OF BULK AT MOST 1048576: true; the input reads as it did. -/
def spreadMirrorUptoRow : OpenClaim := { program := "ythhmedlefahccaagreatdoor", sum := "8c5573fa89595ad8892ed29c39d5cd663f6a85a682fb60eae13633fdcf119a92", func := "plaiting/plaitinglaw9.SpreadMirror", spec := "spreadMirror", inPlace := ["internal/abi.NoEscape"], unfollowed := true, recurses := true, named := ["plaiting/conf.bounds"], apart := false, laid := [("plaiting/conf.bounds", laid_plaiting_conf_bounds)], narrowed := true }
def SpreadMirrorUptoSaid : Prop := spreadMirrorUptoRow.holds Tryz.pinned (OpenSpec.upto spreadMirrorSpec)

end Rows
end Go.Proofs.YthhmedlefahccaaGreatDoor
