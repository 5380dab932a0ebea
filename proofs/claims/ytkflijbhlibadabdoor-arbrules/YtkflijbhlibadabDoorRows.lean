/-
  NARROWER THAN 'FOR EVERY INPUT', by the rows' own cells (each row's printed sentence says how): ArbRight: laid · ArbPick: laid · ArbRules: laid · ArbPairs: laid · ArbRounds: laid · ArbTurned: laid.
  DERIVED. THE GIVEN ROWS OF THIS SEAT. 6 by the template 'for every input the law returns true; each argument reads behind the call as it read before'; 0 by the template 'total and deterministic' (their statements: YtkflijbhlibadabDoorTotals.lean).
  GIVEN WITH THE SEED: the statements are not yours to turn. If you find one false, say at which input.
  Laid BY PROGRAM, IN A SANDBOX (cutbox-rows.mjs): the forced cells as the released guide's own fill.sh prints them over the translation 1fd4a7f03757582e… (all of the seat's roots in one cut). By AI agents, Wed Nov 11 2026. No macro, syntax, notation, axiom, sorry.
-/
import Derived.Test.YtkflijbhlibadabDoorChecked
import GoSem.Claim
import GoSem.ClaimJoined
import GoSem.ClaimMapViews
import Derived.JoinedTies
import Derived.KernelRfl
namespace Go.Proofs.YtkflijbhlibadabDoor
/- THE CELL 'sum', in the pinned program and in every row, IS THE sha256 OF THE DUMP (.gsa) THAT YtkflijbhlibadabDoorProg.lean LOADS. Nothing in Lean hashes anything: it is a label: what it is worth is what the hold of that sum in a sandbox is worth. -/
noncomputable def Tryd.pinned : Pinned := { name := "ytkflijbhlibadabdoor", sum := "1fd4a7f03757582e3e193138f39be61fb0c0514968abc5b3826569a0909ed027", checked := Tryd.checked }
namespace Rows
def none {H : Type} : Left H := { results := [], args := [] }

/- WHAT THE LISTED PACKAGE-LEVEL VARIABLES READ AS WHEN THE CALL BEGINS. Each datum BY PROGRAM (the guide's laid-datum.mjs) off the statement by which the dump's own 'gosem.cut.vars' lays the variable. In a bare row this is a premise. The card (YtkflijbhlibadabDoorCards.lean) ties it to the program's text. -/
def laid_plaiting_conf_bounds {H : Type} : DataW H := .agg [.agg [.lit (.int .i64 6), .lit (.int .i64 12)], .agg [.lit (.int .i64 0), .lit (.int .i64 100)], .agg [.lit (.int .i64 0), .lit (.int .i64 100)], .agg [.lit (.int .i64 0), .lit (.int .i64 65535)]]

/-- 'plaitinglaw10.ArbRight': WHATEVER THE INPUT: true; the input reads as it did. -/
def arbRightSpec : ChangeSpec := { name := "arbRight", fn := fun _ => fun
  | [d1, d2, d3, d4, d5, d6, d7, d8] => { results := [.lit (.bool true)], args := [d1, d2, d3, d4, d5, d6, d7, d8] }
  | _ => none }
def arbRightRow : OpenClaim := { program := "ytkflijbhlibadabdoor", sum := "1fd4a7f03757582e3e193138f39be61fb0c0514968abc5b3826569a0909ed027", func := "plaiting/plaitinglaw10.ArbRight", spec := "arbRight", unfollowed := true, recurses := true, named := ["plaiting/conf.bounds"], apart := false, laid := [("plaiting/conf.bounds", laid_plaiting_conf_bounds)] }
def ArbRightSaid : Prop := arbRightRow.holds Tryd.pinned (OpenSpec.ofChange arbRightSpec)

/-- ITS FALSE NEIGHBOUR: 'it returns false'. Refute it at one input. -/
def arbRightWrong : ChangeSpec := { name := "arbRight", fn := fun _ => fun
  | [d1, d2, d3, d4, d5, d6, d7, d8] => { results := [.lit (.bool false)], args := [d1, d2, d3, d4, d5, d6, d7, d8] }
  | _ => none }
def ArbRightWrongFalsely : Prop := arbRightRow.holds Tryd.pinned (OpenSpec.ofChange arbRightWrong)

/-- 'plaitinglaw10.ArbPick': WHATEVER THE INPUT: true; the input reads as it did. -/
def arbPickSpec : ChangeSpec := { name := "arbPick", fn := fun _ => fun
  | [d1, d2, d3, d4, d5, d6, d7] => { results := [.lit (.bool true)], args := [d1, d2, d3, d4, d5, d6, d7] }
  | _ => none }
def arbPickRow : OpenClaim := { program := "ytkflijbhlibadabdoor", sum := "1fd4a7f03757582e3e193138f39be61fb0c0514968abc5b3826569a0909ed027", func := "plaiting/plaitinglaw10.ArbPick", spec := "arbPick", unfollowed := true, recurses := true, named := ["plaiting/conf.bounds"], apart := false, laid := [("plaiting/conf.bounds", laid_plaiting_conf_bounds)] }
def ArbPickSaid : Prop := arbPickRow.holds Tryd.pinned (OpenSpec.ofChange arbPickSpec)

/-- ITS FALSE NEIGHBOUR: 'it returns false'. Refute it at one input. -/
def arbPickWrong : ChangeSpec := { name := "arbPick", fn := fun _ => fun
  | [d1, d2, d3, d4, d5, d6, d7] => { results := [.lit (.bool false)], args := [d1, d2, d3, d4, d5, d6, d7] }
  | _ => none }
def ArbPickWrongFalsely : Prop := arbPickRow.holds Tryd.pinned (OpenSpec.ofChange arbPickWrong)

/-- 'plaitinglaw10.ArbRules': WHATEVER THE INPUT: true; the input reads as it did. -/
def arbRulesSpec : ChangeSpec := { name := "arbRules", fn := fun _ => fun
  | [d1, d2, d3, d4, d5, d6, d7] => { results := [.lit (.bool true)], args := [d1, d2, d3, d4, d5, d6, d7] }
  | _ => none }
def arbRulesRow : OpenClaim := { program := "ytkflijbhlibadabdoor", sum := "1fd4a7f03757582e3e193138f39be61fb0c0514968abc5b3826569a0909ed027", func := "plaiting/plaitinglaw10.ArbRules", spec := "arbRules", unfollowed := true, recurses := true, named := ["plaiting/conf.bounds"], apart := false, laid := [("plaiting/conf.bounds", laid_plaiting_conf_bounds)] }
def ArbRulesSaid : Prop := arbRulesRow.holds Tryd.pinned (OpenSpec.ofChange arbRulesSpec)

/-- ITS FALSE NEIGHBOUR: 'it returns false'. Refute it at one input. -/
def arbRulesWrong : ChangeSpec := { name := "arbRules", fn := fun _ => fun
  | [d1, d2, d3, d4, d5, d6, d7] => { results := [.lit (.bool false)], args := [d1, d2, d3, d4, d5, d6, d7] }
  | _ => none }
def ArbRulesWrongFalsely : Prop := arbRulesRow.holds Tryd.pinned (OpenSpec.ofChange arbRulesWrong)

/-- 'plaitinglaw10.ArbPairs': WHATEVER THE INPUT: true; the input reads as it did. -/
def arbPairsSpec : ChangeSpec := { name := "arbPairs", fn := fun _ => fun
  | [d1, d2, d3, d4] => { results := [.lit (.bool true)], args := [d1, d2, d3, d4] }
  | _ => none }
def arbPairsRow : OpenClaim := { program := "ytkflijbhlibadabdoor", sum := "1fd4a7f03757582e3e193138f39be61fb0c0514968abc5b3826569a0909ed027", func := "plaiting/plaitinglaw10.ArbPairs", spec := "arbPairs", unfollowed := true, recurses := true, named := ["plaiting/conf.bounds"], apart := false, laid := [("plaiting/conf.bounds", laid_plaiting_conf_bounds)] }
def ArbPairsSaid : Prop := arbPairsRow.holds Tryd.pinned (OpenSpec.ofChange arbPairsSpec)

/-- ITS FALSE NEIGHBOUR: 'it returns false'. Refute it at one input. -/
def arbPairsWrong : ChangeSpec := { name := "arbPairs", fn := fun _ => fun
  | [d1, d2, d3, d4] => { results := [.lit (.bool false)], args := [d1, d2, d3, d4] }
  | _ => none }
def ArbPairsWrongFalsely : Prop := arbPairsRow.holds Tryd.pinned (OpenSpec.ofChange arbPairsWrong)

/-- 'plaitinglaw10.ArbRounds': WHATEVER THE INPUT: true; the input reads as it did. -/
def arbRoundsSpec : ChangeSpec := { name := "arbRounds", fn := fun _ => fun
  | [d1, d2, d3, d4, d5] => { results := [.lit (.bool true)], args := [d1, d2, d3, d4, d5] }
  | _ => none }
def arbRoundsRow : OpenClaim := { program := "ytkflijbhlibadabdoor", sum := "1fd4a7f03757582e3e193138f39be61fb0c0514968abc5b3826569a0909ed027", func := "plaiting/plaitinglaw10.ArbRounds", spec := "arbRounds", unfollowed := true, recurses := true, named := ["plaiting/conf.bounds"], apart := false, laid := [("plaiting/conf.bounds", laid_plaiting_conf_bounds)] }
def ArbRoundsSaid : Prop := arbRoundsRow.holds Tryd.pinned (OpenSpec.ofChange arbRoundsSpec)

/-- ITS FALSE NEIGHBOUR: 'it returns false'. Refute it at one input. -/
def arbRoundsWrong : ChangeSpec := { name := "arbRounds", fn := fun _ => fun
  | [d1, d2, d3, d4, d5] => { results := [.lit (.bool false)], args := [d1, d2, d3, d4, d5] }
  | _ => none }
def ArbRoundsWrongFalsely : Prop := arbRoundsRow.holds Tryd.pinned (OpenSpec.ofChange arbRoundsWrong)

/-- 'plaitinglaw10.ArbTurned': WHATEVER THE INPUT: true; the input reads as it did. -/
def arbTurnedSpec : ChangeSpec := { name := "arbTurned", fn := fun _ => fun
  | [d1, d2, d3, d4, d5, d6, d7] => { results := [.lit (.bool true)], args := [d1, d2, d3, d4, d5, d6, d7] }
  | _ => none }
def arbTurnedRow : OpenClaim := { program := "ytkflijbhlibadabdoor", sum := "1fd4a7f03757582e3e193138f39be61fb0c0514968abc5b3826569a0909ed027", func := "plaiting/plaitinglaw10.ArbTurned", spec := "arbTurned", unfollowed := true, recurses := true, named := ["plaiting/conf.bounds"], apart := false, laid := [("plaiting/conf.bounds", laid_plaiting_conf_bounds)] }
def ArbTurnedSaid : Prop := arbTurnedRow.holds Tryd.pinned (OpenSpec.ofChange arbTurnedSpec)

/-- ITS FALSE NEIGHBOUR: 'it returns false'. Refute it at one input. -/
def arbTurnedWrong : ChangeSpec := { name := "arbTurned", fn := fun _ => fun
  | [d1, d2, d3, d4, d5, d6, d7] => { results := [.lit (.bool false)], args := [d1, d2, d3, d4, d5, d6, d7] }
  | _ => none }
def ArbTurnedWrongFalsely : Prop := arbTurnedRow.holds Tryd.pinned (OpenSpec.ofChange arbTurnedWrong)

/- THE SECOND FORM. 'bulk': how many values and letters a reading holds, each counted each time it is reached (what is shared counts as often as it is met; a slice's spare places count too). A statement '..UptoSaid' is the law's where the arguments, and the package variables that the reading takes, are together of bulk at most 1048576: NARROWER than '..Said'. Prove '..Said' where nothing that the law and all that it calls make is longer than what came in: it says more and counts as full. Else prove '..UptoSaid'. A law counts once. -/
mutual
def uptoBulk {H : Type} : DataW H → Nat
  | .lit (.string bytes) => bytes.length + 1
  | .lit _ => 1
  | .nil => 1
  | .ptr d => uptoBulk d + 1
  | .slice elems spare => uptoBulkAll elems + uptoBulkAll spare + 1
  | .agg parts => uptoBulkAll parts + 1
  | .iface _ d => uptoBulk d + 1
  | .map entries => uptoBulkEntries entries + 1
  | .held _ => 1
def uptoBulkAll {H : Type} : List (DataW H) → Nat
  | [] => 0
  | d :: r => uptoBulk d + uptoBulkAll r
def uptoBulkEntries {H : Type} : List (Lit × DataW H) → Nat
  | [] => 0
  | x :: r => uptoBulkEntry x + uptoBulkEntries r
def uptoBulkEntry {H : Type} : Lit × DataW H → Nat
  | (.string bytes, d) => bytes.length + uptoBulk d + 1
  | (_, d) => uptoBulk d + 1
 end
def uptoSmall : (H : Type) → List (DataW H) → Bool := fun _ ds => decide (uptoBulkAll ds ≤ 1048576)
def OpenSpec.upto (s : _root_.Go.ChangeSpec) : _root_.Go.OpenSpec := { _root_.Go.OpenSpec.ofChange s with cond := some uptoSmall }

/-- 'plaitinglaw10.ArbRight', WHERE WHAT IT READS IS OF BULK AT MOST 1048576: true; the input reads as it did. -/
def arbRightUptoRow : OpenClaim := { program := "ytkflijbhlibadabdoor", sum := "1fd4a7f03757582e3e193138f39be61fb0c0514968abc5b3826569a0909ed027", func := "plaiting/plaitinglaw10.ArbRight", spec := "arbRight", unfollowed := true, recurses := true, named := ["plaiting/conf.bounds"], apart := false, laid := [("plaiting/conf.bounds", laid_plaiting_conf_bounds)], narrowed := true }
def ArbRightUptoSaid : Prop := arbRightUptoRow.holds Tryd.pinned (OpenSpec.upto arbRightSpec)

/-- 'plaitinglaw10.ArbPick', WHERE WHAT IT READS IS OF BULK AT MOST 1048576: true; the input reads as it did. -/
def arbPickUptoRow : OpenClaim := { program := "ytkflijbhlibadabdoor", sum := "1fd4a7f03757582e3e193138f39be61fb0c0514968abc5b3826569a0909ed027", func := "plaiting/plaitinglaw10.ArbPick", spec := "arbPick", unfollowed := true, recurses := true, named := ["plaiting/conf.bounds"], apart := false, laid := [("plaiting/conf.bounds", laid_plaiting_conf_bounds)], narrowed := true }
def ArbPickUptoSaid : Prop := arbPickUptoRow.holds Tryd.pinned (OpenSpec.upto arbPickSpec)

/-- 'plaitinglaw10.ArbRules', WHERE WHAT IT READS IS OF BULK AT MOST 1048576: true; the input reads as it did. -/
def arbRulesUptoRow : OpenClaim := { program := "ytkflijbhlibadabdoor", sum := "1fd4a7f03757582e3e193138f39be61fb0c0514968abc5b3826569a0909ed027", func := "plaiting/plaitinglaw10.ArbRules", spec := "arbRules", unfollowed := true, recurses := true, named := ["plaiting/conf.bounds"], apart := false, laid := [("plaiting/conf.bounds", laid_plaiting_conf_bounds)], narrowed := true }
def ArbRulesUptoSaid : Prop := arbRulesUptoRow.holds Tryd.pinned (OpenSpec.upto arbRulesSpec)

/-- 'plaitinglaw10.ArbPairs', WHERE WHAT IT READS IS OF BULK AT MOST 1048576: true; the input reads as it did. -/
def arbPairsUptoRow : OpenClaim := { program := "ytkflijbhlibadabdoor", sum := "1fd4a7f03757582e3e193138f39be61fb0c0514968abc5b3826569a0909ed027", func := "plaiting/plaitinglaw10.ArbPairs", spec := "arbPairs", unfollowed := true, recurses := true, named := ["plaiting/conf.bounds"], apart := false, laid := [("plaiting/conf.bounds", laid_plaiting_conf_bounds)], narrowed := true }
def ArbPairsUptoSaid : Prop := arbPairsUptoRow.holds Tryd.pinned (OpenSpec.upto arbPairsSpec)

/-- 'plaitinglaw10.ArbRounds', WHERE WHAT IT READS IS OF BULK AT MOST 1048576: true; the input reads as it did. -/
def arbRoundsUptoRow : OpenClaim := { program := "ytkflijbhlibadabdoor", sum := "1fd4a7f03757582e3e193138f39be61fb0c0514968abc5b3826569a0909ed027", func := "plaiting/plaitinglaw10.ArbRounds", spec := "arbRounds", unfollowed := true, recurses := true, named := ["plaiting/conf.bounds"], apart := false, laid := [("plaiting/conf.bounds", laid_plaiting_conf_bounds)], narrowed := true }
def ArbRoundsUptoSaid : Prop := arbRoundsUptoRow.holds Tryd.pinned (OpenSpec.upto arbRoundsSpec)

/-- 'plaitinglaw10.ArbTurned', WHERE WHAT IT READS IS OF BULK AT MOST 1048576: true; the input reads as it did. -/
def arbTurnedUptoRow : OpenClaim := { program := "ytkflijbhlibadabdoor", sum := "1fd4a7f03757582e3e193138f39be61fb0c0514968abc5b3826569a0909ed027", func := "plaiting/plaitinglaw10.ArbTurned", spec := "arbTurned", unfollowed := true, recurses := true, named := ["plaiting/conf.bounds"], apart := false, laid := [("plaiting/conf.bounds", laid_plaiting_conf_bounds)], narrowed := true }
def ArbTurnedUptoSaid : Prop := arbTurnedUptoRow.holds Tryd.pinned (OpenSpec.upto arbTurnedSpec)

end Rows
end Go.Proofs.YtkflijbhlibadabDoor
