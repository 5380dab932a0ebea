/-
  NARROWER THAN 'FOR EVERY INPUT', by the rows' own cells (each row's printed sentence says how): ConfChecks: laid · ConfAll: laid · ConfParts: laid · ConfRounds: laid · ConfKnown: laid · ConfMost: laid.
  DERIVED. THE GIVEN ROWS OF THIS SEAT. 6 by the template 'for every input the law returns true; each argument reads behind the call as it read before'; 0 by the template 'total and deterministic' (their statements: YtpbnpghdhjminaaDoorTotals.lean).
  GIVEN WITH THE SEED: the statements are not yours to turn. If you find one false, say at which input.
  Laid BY PROGRAM, IN A SANDBOX (cutbox-rows.mjs): the forced cells as the released guide's own fill.sh prints them over the translation 039bfe99b4472537… (all of the seat's roots in one cut). By AI agents, Wed Nov 11 2026. No macro, syntax, notation, axiom, sorry.
-/
import Derived.Test.YtpbnpghdhjminaaDoorChecked
import GoSem.Claim
import GoSem.ClaimJoined
import GoSem.ClaimMapViews
import Derived.JoinedTies
import Derived.KernelRfl
namespace Go.Proofs.YtpbnpghdhjminaaDoor
/- THE CELL 'sum', in the pinned program and in every row, IS THE sha256 OF THE DUMP (.gsa) THAT YtpbnpghdhjminaaDoorProg.lean LOADS. Nothing in Lean hashes anything: it is a label: what it is worth is what the hold of that sum in a sandbox is worth. -/
noncomputable def Tryd.pinned : Pinned := { name := "ytpbnpghdhjminaadoor", sum := "039bfe99b447253775c69f9b29100041572c920648eba70bbbb5c91380cb8ece", checked := Tryd.checked }
namespace Rows
def none {H : Type} : Left H := { results := [], args := [] }

/- WHAT THE LISTED PACKAGE-LEVEL VARIABLES READ AS WHEN THE CALL BEGINS. Each datum BY PROGRAM (the guide's laid-datum.mjs) off the statement by which the dump's own 'gosem.cut.vars' lays the variable. In a bare row this is a premise. The card (YtpbnpghdhjminaaDoorCards.lean) ties it to the program's text. -/
def laid_plaiting_conf_bounds {H : Type} : DataW H := .agg [.agg [.lit (.int .i64 6), .lit (.int .i64 12)], .agg [.lit (.int .i64 0), .lit (.int .i64 100)], .agg [.lit (.int .i64 0), .lit (.int .i64 100)], .agg [.lit (.int .i64 0), .lit (.int .i64 65535)]]

/-- 'plaitinglaw3.ConfChecks': WHATEVER THE INPUT: true; the input reads as it did. -/
def confChecksSpec : ChangeSpec := { name := "confChecks", fn := fun _ => fun
  | [d1, d2, d3] => { results := [.lit (.bool true)], args := [d1, d2, d3] }
  | _ => none }
def confChecksRow : OpenClaim := { program := "ytpbnpghdhjminaadoor", sum := "039bfe99b447253775c69f9b29100041572c920648eba70bbbb5c91380cb8ece", func := "plaiting/plaitinglaw3.ConfChecks", spec := "confChecks", named := ["plaiting/conf.bounds"], apart := false, laid := [("plaiting/conf.bounds", laid_plaiting_conf_bounds)] }
def ConfChecksSaid : Prop := confChecksRow.holds Tryd.pinned (OpenSpec.ofChange confChecksSpec)

/-- ITS FALSE NEIGHBOUR: 'it returns false'. Refute it at one input. -/
def confChecksWrong : ChangeSpec := { name := "confChecks", fn := fun _ => fun
  | [d1, d2, d3] => { results := [.lit (.bool false)], args := [d1, d2, d3] }
  | _ => none }
def ConfChecksWrongFalsely : Prop := confChecksRow.holds Tryd.pinned (OpenSpec.ofChange confChecksWrong)

/-- 'plaitinglaw3.ConfAll': WHATEVER THE INPUT: true; the input reads as it did. -/
def confAllSpec : ChangeSpec := { name := "confAll", fn := fun _ => fun
  | [d1, d2, d3] => { results := [.lit (.bool true)], args := [d1, d2, d3] }
  | _ => none }
def confAllRow : OpenClaim := { program := "ytpbnpghdhjminaadoor", sum := "039bfe99b447253775c69f9b29100041572c920648eba70bbbb5c91380cb8ece", func := "plaiting/plaitinglaw3.ConfAll", spec := "confAll", named := ["plaiting/conf.bounds"], apart := false, laid := [("plaiting/conf.bounds", laid_plaiting_conf_bounds)] }
def ConfAllSaid : Prop := confAllRow.holds Tryd.pinned (OpenSpec.ofChange confAllSpec)

/-- ITS FALSE NEIGHBOUR: 'it returns false'. Refute it at one input. -/
def confAllWrong : ChangeSpec := { name := "confAll", fn := fun _ => fun
  | [d1, d2, d3] => { results := [.lit (.bool false)], args := [d1, d2, d3] }
  | _ => none }
def ConfAllWrongFalsely : Prop := confAllRow.holds Tryd.pinned (OpenSpec.ofChange confAllWrong)

/-- 'plaitinglaw3.ConfParts': WHATEVER THE INPUT: true; the input reads as it did. -/
def confPartsSpec : ChangeSpec := { name := "confParts", fn := fun _ => fun
  | [d1, d2] => { results := [.lit (.bool true)], args := [d1, d2] }
  | _ => none }
def confPartsRow : OpenClaim := { program := "ytpbnpghdhjminaadoor", sum := "039bfe99b447253775c69f9b29100041572c920648eba70bbbb5c91380cb8ece", func := "plaiting/plaitinglaw3.ConfParts", spec := "confParts", named := ["plaiting/conf.bounds"], apart := false, laid := [("plaiting/conf.bounds", laid_plaiting_conf_bounds)] }
def ConfPartsSaid : Prop := confPartsRow.holds Tryd.pinned (OpenSpec.ofChange confPartsSpec)

/-- ITS FALSE NEIGHBOUR: 'it returns false'. Refute it at one input. -/
def confPartsWrong : ChangeSpec := { name := "confParts", fn := fun _ => fun
  | [d1, d2] => { results := [.lit (.bool false)], args := [d1, d2] }
  | _ => none }
def ConfPartsWrongFalsely : Prop := confPartsRow.holds Tryd.pinned (OpenSpec.ofChange confPartsWrong)

/-- 'plaitinglaw3.ConfRounds': WHATEVER THE INPUT: true; the input reads as it did. -/
def confRoundsSpec : ChangeSpec := { name := "confRounds", fn := fun _ => fun
  | [d1, d2] => { results := [.lit (.bool true)], args := [d1, d2] }
  | _ => none }
def confRoundsRow : OpenClaim := { program := "ytpbnpghdhjminaadoor", sum := "039bfe99b447253775c69f9b29100041572c920648eba70bbbb5c91380cb8ece", func := "plaiting/plaitinglaw3.ConfRounds", spec := "confRounds", named := ["plaiting/conf.bounds"], apart := false, laid := [("plaiting/conf.bounds", laid_plaiting_conf_bounds)] }
def ConfRoundsSaid : Prop := confRoundsRow.holds Tryd.pinned (OpenSpec.ofChange confRoundsSpec)

/-- ITS FALSE NEIGHBOUR: 'it returns false'. Refute it at one input. -/
def confRoundsWrong : ChangeSpec := { name := "confRounds", fn := fun _ => fun
  | [d1, d2] => { results := [.lit (.bool false)], args := [d1, d2] }
  | _ => none }
def ConfRoundsWrongFalsely : Prop := confRoundsRow.holds Tryd.pinned (OpenSpec.ofChange confRoundsWrong)

/-- 'plaitinglaw3.ConfKnown': WHATEVER THE INPUT: true; the input reads as it did. -/
def confKnownSpec : ChangeSpec := { name := "confKnown", fn := fun _ => fun
  | [d] => { results := [.lit (.bool true)], args := [d] }
  | _ => none }
def confKnownRow : OpenClaim := { program := "ytpbnpghdhjminaadoor", sum := "039bfe99b447253775c69f9b29100041572c920648eba70bbbb5c91380cb8ece", func := "plaiting/plaitinglaw3.ConfKnown", spec := "confKnown", named := ["plaiting/conf.bounds"], apart := false, laid := [("plaiting/conf.bounds", laid_plaiting_conf_bounds)] }
def ConfKnownSaid : Prop := confKnownRow.holds Tryd.pinned (OpenSpec.ofChange confKnownSpec)

/-- ITS FALSE NEIGHBOUR: 'it returns false'. Refute it at one input. -/
def confKnownWrong : ChangeSpec := { name := "confKnown", fn := fun _ => fun
  | [d] => { results := [.lit (.bool false)], args := [d] }
  | _ => none }
def ConfKnownWrongFalsely : Prop := confKnownRow.holds Tryd.pinned (OpenSpec.ofChange confKnownWrong)

/-- 'plaitinglaw3.ConfMost': WHATEVER THE INPUT: true; the input reads as it did. -/
def confMostSpec : ChangeSpec := { name := "confMost", fn := fun _ => fun
  | [d] => { results := [.lit (.bool true)], args := [d] }
  | _ => none }
def confMostRow : OpenClaim := { program := "ytpbnpghdhjminaadoor", sum := "039bfe99b447253775c69f9b29100041572c920648eba70bbbb5c91380cb8ece", func := "plaiting/plaitinglaw3.ConfMost", spec := "confMost", named := ["plaiting/conf.bounds"], apart := false, laid := [("plaiting/conf.bounds", laid_plaiting_conf_bounds)] }
def ConfMostSaid : Prop := confMostRow.holds Tryd.pinned (OpenSpec.ofChange confMostSpec)

/-- ITS FALSE NEIGHBOUR: 'it returns false'. Refute it at one input. -/
def confMostWrong : ChangeSpec := { name := "confMost", fn := fun _ => fun
  | [d] => { results := [.lit (.bool false)], args := [d] }
  | _ => none }
def ConfMostWrongFalsely : Prop := confMostRow.holds Tryd.pinned (OpenSpec.ofChange confMostWrong)

/- THE SECOND FORM. 'bulk': how many values and letters a reading holds, each counted each time it is reached (what is shared counts as often as it is met; a slice's spare places count too). A statement '..UptoSaid' is the law's where the arguments, and the package variables that the reading takes, are together of bulk at most 1048576: NARROWER than '..Said'. Prove '..Said' where nothing that the law and all that it calls make is longer than what came in: it says more and counts as full. Else prove '..UptoSaid'. A law counts once. -/
mutual
def uptoBulk {H : Type} : DataW H → Nat
  | .lit (.string bytes) => bytes.length + 1
  | .lit _ => 1
  | .nil => 1
  | .ptr d => uptoBulk d + 1
  | .slice elems spare => uptoBulkAll elems + uptoBulkAll spare + 1
  | .agg parts => uptoBulkAll parts + 1
  | .iface _ d => uptoBulk d + 1
  | .map entries => uptoBulkEntries entries + 1
  | .held _ => 1
def uptoBulkAll {H : Type} : List (DataW H) → Nat
  | [] => 0
  | d :: r => uptoBulk d + uptoBulkAll r
def uptoBulkEntries {H : Type} : List (Lit × DataW H) → Nat
  | [] => 0
  | x :: r => uptoBulkEntry x + uptoBulkEntries r
def uptoBulkEntry {H : Type} : Lit × DataW H → Nat
  | (.string bytes, d) => bytes.length + uptoBulk d + 1
  | (_, d) => uptoBulk d + 1
 end
def uptoSmall : (H : Type) → List (DataW H) → Bool := fun _ ds => decide (uptoBulkAll ds ≤ 1048576)
def OpenSpec.upto (s : _root_.Go.ChangeSpec) : _root_.Go.OpenSpec := { _root_.Go.OpenSpec.ofChange s with cond := some uptoSmall }

/-- 'plaitinglaw3.ConfChecks', WHERE WHAT IT READS IS OF BULK AT MOST 1048576: true; the input reads as it did. -/
def confChecksUptoRow : OpenClaim := { program := "ytpbnpghdhjminaadoor", sum := "039bfe99b447253775c69f9b29100041572c920648eba70bbbb5c91380cb8ece", func := "plaiting/plaitinglaw3.ConfChecks", spec := "confChecks", named := ["plaiting/conf.bounds"], apart := false, laid := [("plaiting/conf.bounds", laid_plaiting_conf_bounds)], narrowed := true }
def ConfChecksUptoSaid : Prop := confChecksUptoRow.holds Tryd.pinned (OpenSpec.upto confChecksSpec)

/-- 'plaitinglaw3.ConfAll', WHERE WHAT IT READS IS OF BULK AT MOST 1048576: true; the input reads as it did. -/
def confAllUptoRow : OpenClaim := { program := "ytpbnpghdhjminaadoor", sum := "039bfe99b447253775c69f9b29100041572c920648eba70bbbb5c91380cb8ece", func := "plaiting/plaitinglaw3.ConfAll", spec := "confAll", named := ["plaiting/conf.bounds"], apart := false, laid := [("plaiting/conf.bounds", laid_plaiting_conf_bounds)], narrowed := true }
def ConfAllUptoSaid : Prop := confAllUptoRow.holds Tryd.pinned (OpenSpec.upto confAllSpec)

/-- 'plaitinglaw3.ConfParts', WHERE WHAT IT READS IS OF BULK AT MOST 1048576: true; the input reads as it did. -/
def confPartsUptoRow : OpenClaim := { program := "ytpbnpghdhjminaadoor", sum := "039bfe99b447253775c69f9b29100041572c920648eba70bbbb5c91380cb8ece", func := "plaiting/plaitinglaw3.ConfParts", spec := "confParts", named := ["plaiting/conf.bounds"], apart := false, laid := [("plaiting/conf.bounds", laid_plaiting_conf_bounds)], narrowed := true }
def ConfPartsUptoSaid : Prop := confPartsUptoRow.holds Tryd.pinned (OpenSpec.upto confPartsSpec)

/-- 'plaitinglaw3.ConfRounds', WHERE WHAT IT READS IS OF BULK AT MOST 1048576: true; the input reads as it did. -/
def confRoundsUptoRow : OpenClaim := { program := "ytpbnpghdhjminaadoor", sum := "039bfe99b447253775c69f9b29100041572c920648eba70bbbb5c91380cb8ece", func := "plaiting/plaitinglaw3.ConfRounds", spec := "confRounds", named := ["plaiting/conf.bounds"], apart := false, laid := [("plaiting/conf.bounds", laid_plaiting_conf_bounds)], narrowed := true }
def ConfRoundsUptoSaid : Prop := confRoundsUptoRow.holds Tryd.pinned (OpenSpec.upto confRoundsSpec)

/-- 'plaitinglaw3.ConfKnown', WHERE WHAT IT READS IS OF BULK AT MOST 1048576: true; the input reads as it did. -/
def confKnownUptoRow : OpenClaim := { program := "ytpbnpghdhjminaadoor", sum := "039bfe99b447253775c69f9b29100041572c920648eba70bbbb5c91380cb8ece", func := "plaiting/plaitinglaw3.ConfKnown", spec := "confKnown", named := ["plaiting/conf.bounds"], apart := false, laid := [("plaiting/conf.bounds", laid_plaiting_conf_bounds)], narrowed := true }
def ConfKnownUptoSaid : Prop := confKnownUptoRow.holds Tryd.pinned (OpenSpec.upto confKnownSpec)

/-- 'plaitinglaw3.ConfMost', WHERE WHAT IT READS IS OF BULK AT MOST 1048576: true; the input reads as it did. -/
def confMostUptoRow : OpenClaim := { program := "ytpbnpghdhjminaadoor", sum := "039bfe99b447253775c69f9b29100041572c920648eba70bbbb5c91380cb8ece", func := "plaiting/plaitinglaw3.ConfMost", spec := "confMost", named := ["plaiting/conf.bounds"], apart := false, laid := [("plaiting/conf.bounds", laid_plaiting_conf_bounds)], narrowed := true }
def ConfMostUptoSaid : Prop := confMostUptoRow.holds Tryd.pinned (OpenSpec.upto confMostSpec)

end Rows
end Go.Proofs.YtpbnpghdhjminaaDoor
