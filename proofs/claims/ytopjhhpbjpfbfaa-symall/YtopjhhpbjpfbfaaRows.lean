/-
  No cell of these rows narrows 'for every input' (looked for: loops, veiled, ifaces, maps, wideKeys, modest, calm, conditions, laid).
  DERIVED. THE GIVEN ROWS OF THIS SEAT. 8 by the template 'for every input the law returns true; each argument reads behind the call as it read before'; 0 by the template 'total and deterministic' (their statements: YtopjhhpbjpfbfaaTotals.lean).
  GIVEN WITH THE SEED: the statements are not yours to turn. If you find one false, say at which input.
  Laid BY PROGRAM, IN A SANDBOX (cutbox-rows.mjs): the forced cells as the released guide's own fill.sh prints them over the translation 06f72ece2265ceab… (all of the seat's roots in one cut). By AI agents, Wed Nov 11 2026. No macro, syntax, notation, axiom, sorry.
-/
import Derived.Test.YtopjhhpbjpfbfaaChecked
import GoSem.Claim
import GoSem.ClaimJoined
import GoSem.ClaimMapViews
import Derived.JoinedTies
import Derived.KernelRfl
namespace Go.Proofs.Ytopjhhpbjpfbfaa
/- THE CELL 'sum', in the pinned program and in every row, IS THE sha256 OF THE DUMP (.gsa) THAT YtopjhhpbjpfbfaaProg.lean LOADS. Nothing in Lean hashes anything: it is a label: what it is worth is what the hold of that sum in a sandbox is worth. -/
noncomputable def Try.pinned : Pinned := { name := "ytopjhhpbjpfbfaa", sum := "06f72ece2265ceab0c4bb48dfaea8cd3b13ccd811d32dce8122b98b1378f0a09", checked := Try.checked }
namespace Rows
def none {H : Type} : Left H := { results := [], args := [] }

/-- 'plaitinglaw1.SymAll': WHATEVER THE INPUT: true; the input reads as it did. -/
def symAllSpec : ChangeSpec := { name := "symAll", fn := fun _ => fun
  | [d1, d2, d3, d4] => { results := [.lit (.bool true)], args := [d1, d2, d3, d4] }
  | _ => none }
def symAllRow : OpenClaim := { program := "ytopjhhpbjpfbfaa", sum := "06f72ece2265ceab0c4bb48dfaea8cd3b13ccd811d32dce8122b98b1378f0a09", func := "plaiting/plaitinglaw1.SymAll", spec := "symAll", apart := false }
def SymAllSaid : Prop := symAllRow.holds Try.pinned (OpenSpec.ofChange symAllSpec)

/-- ITS FALSE NEIGHBOUR: 'it returns false'. Refute it at one input. -/
def symAllWrong : ChangeSpec := { name := "symAll", fn := fun _ => fun
  | [d1, d2, d3, d4] => { results := [.lit (.bool false)], args := [d1, d2, d3, d4] }
  | _ => none }
def SymAllWrongFalsely : Prop := symAllRow.holds Try.pinned (OpenSpec.ofChange symAllWrong)

/-- 'plaitinglaw1.SymBits': WHATEVER THE INPUT: true; the input reads as it did. -/
def symBitsSpec : ChangeSpec := { name := "symBits", fn := fun _ => fun
  | [d1, d2, d3, d4] => { results := [.lit (.bool true)], args := [d1, d2, d3, d4] }
  | _ => none }
def symBitsRow : OpenClaim := { program := "ytopjhhpbjpfbfaa", sum := "06f72ece2265ceab0c4bb48dfaea8cd3b13ccd811d32dce8122b98b1378f0a09", func := "plaiting/plaitinglaw1.SymBits", spec := "symBits", apart := false }
def SymBitsSaid : Prop := symBitsRow.holds Try.pinned (OpenSpec.ofChange symBitsSpec)

/-- ITS FALSE NEIGHBOUR: 'it returns false'. Refute it at one input. -/
def symBitsWrong : ChangeSpec := { name := "symBits", fn := fun _ => fun
  | [d1, d2, d3, d4] => { results := [.lit (.bool false)], args := [d1, d2, d3, d4] }
  | _ => none }
def SymBitsWrongFalsely : Prop := symBitsRow.holds Try.pinned (OpenSpec.ofChange symBitsWrong)

/-- 'plaitinglaw1.SymCommon': WHATEVER THE INPUT: true; the input reads as it did. -/
def symCommonSpec : ChangeSpec := { name := "symCommon", fn := fun _ => fun
  | [d1, d2, d3] => { results := [.lit (.bool true)], args := [d1, d2, d3] }
  | _ => none }
def symCommonRow : OpenClaim := { program := "ytopjhhpbjpfbfaa", sum := "06f72ece2265ceab0c4bb48dfaea8cd3b13ccd811d32dce8122b98b1378f0a09", func := "plaiting/plaitinglaw1.SymCommon", spec := "symCommon", apart := false }
def SymCommonSaid : Prop := symCommonRow.holds Try.pinned (OpenSpec.ofChange symCommonSpec)

/-- ITS FALSE NEIGHBOUR: 'it returns false'. Refute it at one input. -/
def symCommonWrong : ChangeSpec := { name := "symCommon", fn := fun _ => fun
  | [d1, d2, d3] => { results := [.lit (.bool false)], args := [d1, d2, d3] }
  | _ => none }
def SymCommonWrongFalsely : Prop := symCommonRow.holds Try.pinned (OpenSpec.ofChange symCommonWrong)

/-- 'plaitinglaw1.SymTurn': WHATEVER THE INPUT: true; the input reads as it did. -/
def symTurnSpec : ChangeSpec := { name := "symTurn", fn := fun _ => fun
  | [d1, d2] => { results := [.lit (.bool true)], args := [d1, d2] }
  | _ => none }
def symTurnRow : OpenClaim := { program := "ytopjhhpbjpfbfaa", sum := "06f72ece2265ceab0c4bb48dfaea8cd3b13ccd811d32dce8122b98b1378f0a09", func := "plaiting/plaitinglaw1.SymTurn", spec := "symTurn", apart := false }
def SymTurnSaid : Prop := symTurnRow.holds Try.pinned (OpenSpec.ofChange symTurnSpec)

/-- ITS FALSE NEIGHBOUR: 'it returns false'. Refute it at one input. -/
def symTurnWrong : ChangeSpec := { name := "symTurn", fn := fun _ => fun
  | [d1, d2] => { results := [.lit (.bool false)], args := [d1, d2] }
  | _ => none }
def SymTurnWrongFalsely : Prop := symTurnRow.holds Try.pinned (OpenSpec.ofChange symTurnWrong)

/-- 'plaitinglaw1.SymClean': WHATEVER THE INPUT: true; the input reads as it did. -/
def symCleanSpec : ChangeSpec := { name := "symClean", fn := fun _ => fun
  | [d1, d2] => { results := [.lit (.bool true)], args := [d1, d2] }
  | _ => none }
def symCleanRow : OpenClaim := { program := "ytopjhhpbjpfbfaa", sum := "06f72ece2265ceab0c4bb48dfaea8cd3b13ccd811d32dce8122b98b1378f0a09", func := "plaiting/plaitinglaw1.SymClean", spec := "symClean", apart := false }
def SymCleanSaid : Prop := symCleanRow.holds Try.pinned (OpenSpec.ofChange symCleanSpec)

/-- ITS FALSE NEIGHBOUR: 'it returns false'. Refute it at one input. -/
def symCleanWrong : ChangeSpec := { name := "symClean", fn := fun _ => fun
  | [d1, d2] => { results := [.lit (.bool false)], args := [d1, d2] }
  | _ => none }
def SymCleanWrongFalsely : Prop := symCleanRow.holds Try.pinned (OpenSpec.ofChange symCleanWrong)

/-- 'plaitinglaw1.SymKnown': WHATEVER THE INPUT: true; the input reads as it did. -/
def symKnownSpec : ChangeSpec := { name := "symKnown", fn := fun _ => fun
  | [d] => { results := [.lit (.bool true)], args := [d] }
  | _ => none }
def symKnownRow : OpenClaim := { program := "ytopjhhpbjpfbfaa", sum := "06f72ece2265ceab0c4bb48dfaea8cd3b13ccd811d32dce8122b98b1378f0a09", func := "plaiting/plaitinglaw1.SymKnown", spec := "symKnown", apart := false }
def SymKnownSaid : Prop := symKnownRow.holds Try.pinned (OpenSpec.ofChange symKnownSpec)

/-- ITS FALSE NEIGHBOUR: 'it returns false'. Refute it at one input. -/
def symKnownWrong : ChangeSpec := { name := "symKnown", fn := fun _ => fun
  | [d] => { results := [.lit (.bool false)], args := [d] }
  | _ => none }
def SymKnownWrongFalsely : Prop := symKnownRow.holds Try.pinned (OpenSpec.ofChange symKnownWrong)

/-- 'plaitinglaw1.SymNums': WHATEVER THE INPUT: true; the input reads as it did. -/
def symNumsSpec : ChangeSpec := { name := "symNums", fn := fun _ => fun
  | [d1, d2, d3] => { results := [.lit (.bool true)], args := [d1, d2, d3] }
  | _ => none }
def symNumsRow : OpenClaim := { program := "ytopjhhpbjpfbfaa", sum := "06f72ece2265ceab0c4bb48dfaea8cd3b13ccd811d32dce8122b98b1378f0a09", func := "plaiting/plaitinglaw1.SymNums", spec := "symNums", apart := false }
def SymNumsSaid : Prop := symNumsRow.holds Try.pinned (OpenSpec.ofChange symNumsSpec)

/-- ITS FALSE NEIGHBOUR: 'it returns false'. Refute it at one input. -/
def symNumsWrong : ChangeSpec := { name := "symNums", fn := fun _ => fun
  | [d1, d2, d3] => { results := [.lit (.bool false)], args := [d1, d2, d3] }
  | _ => none }
def SymNumsWrongFalsely : Prop := symNumsRow.holds Try.pinned (OpenSpec.ofChange symNumsWrong)

/-- 'plaitinglaw1.SymJoin': WHATEVER THE INPUT: true; the input reads as it did. -/
def symJoinSpec : ChangeSpec := { name := "symJoin", fn := fun _ => fun
  | [d1, d2, d3, d4] => { results := [.lit (.bool true)], args := [d1, d2, d3, d4] }
  | _ => none }
def symJoinRow : OpenClaim := { program := "ytopjhhpbjpfbfaa", sum := "06f72ece2265ceab0c4bb48dfaea8cd3b13ccd811d32dce8122b98b1378f0a09", func := "plaiting/plaitinglaw1.SymJoin", spec := "symJoin", apart := false }
def SymJoinSaid : Prop := symJoinRow.holds Try.pinned (OpenSpec.ofChange symJoinSpec)

/-- ITS FALSE NEIGHBOUR: 'it returns false'. Refute it at one input. -/
def symJoinWrong : ChangeSpec := { name := "symJoin", fn := fun _ => fun
  | [d1, d2, d3, d4] => { results := [.lit (.bool false)], args := [d1, d2, d3, d4] }
  | _ => none }
def SymJoinWrongFalsely : Prop := symJoinRow.holds Try.pinned (OpenSpec.ofChange symJoinWrong)

/- THE SECOND FORM. 'bulk': how many values and letters a reading holds, each counted each time it is reached (what is shared counts as often as it is met; a slice's spare places count too). A statement '..UptoSaid' is the law's where the arguments, and the package variables that the reading takes, are together of bulk at most 1048576: NARROWER than '..Said'. Prove '..Said' where nothing that the law and all that it calls make is longer than what came in: it says more and counts as full. Else prove '..UptoSaid'. A law counts once. -/
mutual
def uptoBulk {H : Type} : DataW H → Nat
  | .lit (.string bytes) => bytes.length + 1
  | .lit _ => 1
  | .nil => 1
  | .ptr d => uptoBulk d + 1
  | .slice elems spare => uptoBulkAll elems + uptoBulkAll spare + 1
  | .agg parts => uptoBulkAll parts + 1
  | .iface _ d => uptoBulk d + 1
  | .map entries => uptoBulkEntries entries + 1
  | .held _ => 1
def uptoBulkAll {H : Type} : List (DataW H) → Nat
  | [] => 0
  | d :: r => uptoBulk d + uptoBulkAll r
def uptoBulkEntries {H : Type} : List (Lit × DataW H) → Nat
  | [] => 0
  | x :: r => uptoBulkEntry x + uptoBulkEntries r
def uptoBulkEntry {H : Type} : Lit × DataW H → Nat
  | (.string bytes, d) => bytes.length + uptoBulk d + 1
  | (_, d) => uptoBulk d + 1
 end
def uptoSmall : (H : Type) → List (DataW H) → Bool := fun _ ds => decide (uptoBulkAll ds ≤ 1048576)
def OpenSpec.upto (s : _root_.Go.ChangeSpec) : _root_.Go.OpenSpec := { _root_.Go.OpenSpec.ofChange s with cond := some uptoSmall }

/-- 'plaitinglaw1.SymAll', WHERE WHAT IT READS IS OF BULK AT MOST 1048576: true; the input reads as it did. -/
def symAllUptoRow : OpenClaim := { program := "ytopjhhpbjpfbfaa", sum := "06f72ece2265ceab0c4bb48dfaea8cd3b13ccd811d32dce8122b98b1378f0a09", func := "plaiting/plaitinglaw1.SymAll", spec := "symAll", apart := false, narrowed := true }
def SymAllUptoSaid : Prop := symAllUptoRow.holds Try.pinned (OpenSpec.upto symAllSpec)

/-- 'plaitinglaw1.SymBits', WHERE WHAT IT READS IS OF BULK AT MOST 1048576: true; the input reads as it did. -/
def symBitsUptoRow : OpenClaim := { program := "ytopjhhpbjpfbfaa", sum := "06f72ece2265ceab0c4bb48dfaea8cd3b13ccd811d32dce8122b98b1378f0a09", func := "plaiting/plaitinglaw1.SymBits", spec := "symBits", apart := false, narrowed := true }
def SymBitsUptoSaid : Prop := symBitsUptoRow.holds Try.pinned (OpenSpec.upto symBitsSpec)

/-- 'plaitinglaw1.SymCommon', WHERE WHAT IT READS IS OF BULK AT MOST 1048576: true; the input reads as it did. -/
def symCommonUptoRow : OpenClaim := { program := "ytopjhhpbjpfbfaa", sum := "06f72ece2265ceab0c4bb48dfaea8cd3b13ccd811d32dce8122b98b1378f0a09", func := "plaiting/plaitinglaw1.SymCommon", spec := "symCommon", apart := false, narrowed := true }
def SymCommonUptoSaid : Prop := symCommonUptoRow.holds Try.pinned (OpenSpec.upto symCommonSpec)

/-- 'plaitinglaw1.SymTurn', WHERE WHAT IT READS IS OF BULK AT MOST 1048576: true; the input reads as it did. -/
def symTurnUptoRow : OpenClaim := { program := "ytopjhhpbjpfbfaa", sum := "06f72ece2265ceab0c4bb48dfaea8cd3b13ccd811d32dce8122b98b1378f0a09", func := "plaiting/plaitinglaw1.SymTurn", spec := "symTurn", apart := false, narrowed := true }
def SymTurnUptoSaid : Prop := symTurnUptoRow.holds Try.pinned (OpenSpec.upto symTurnSpec)

/-- 'plaitinglaw1.SymClean', WHERE WHAT IT READS IS OF BULK AT MOST 1048576: true; the input reads as it did. -/
def symCleanUptoRow : OpenClaim := { program := "ytopjhhpbjpfbfaa", sum := "06f72ece2265ceab0c4bb48dfaea8cd3b13ccd811d32dce8122b98b1378f0a09", func := "plaiting/plaitinglaw1.SymClean", spec := "symClean", apart := false, narrowed := true }
def SymCleanUptoSaid : Prop := symCleanUptoRow.holds Try.pinned (OpenSpec.upto symCleanSpec)

/-- 'plaitinglaw1.SymKnown', WHERE WHAT IT READS IS OF BULK AT MOST 1048576: true; the input reads as it did. -/
def symKnownUptoRow : OpenClaim := { program := "ytopjhhpbjpfbfaa", sum := "06f72ece2265ceab0c4bb48dfaea8cd3b13ccd811d32dce8122b98b1378f0a09", func := "plaiting/plaitinglaw1.SymKnown", spec := "symKnown", apart := false, narrowed := true }
def SymKnownUptoSaid : Prop := symKnownUptoRow.holds Try.pinned (OpenSpec.upto symKnownSpec)

/-- 'plaitinglaw1.SymNums', WHERE WHAT IT READS IS OF BULK AT MOST 1048576: true; the input reads as it did. -/
def symNumsUptoRow : OpenClaim := { program := "ytopjhhpbjpfbfaa", sum := "06f72ece2265ceab0c4bb48dfaea8cd3b13ccd811d32dce8122b98b1378f0a09", func := "plaiting/plaitinglaw1.SymNums", spec := "symNums", apart := false, narrowed := true }
def SymNumsUptoSaid : Prop := symNumsUptoRow.holds Try.pinned (OpenSpec.upto symNumsSpec)

/-- 'plaitinglaw1.SymJoin', WHERE WHAT IT READS IS OF BULK AT MOST 1048576: true; the input reads as it did. -/
def symJoinUptoRow : OpenClaim := { program := "ytopjhhpbjpfbfaa", sum := "06f72ece2265ceab0c4bb48dfaea8cd3b13ccd811d32dce8122b98b1378f0a09", func := "plaiting/plaitinglaw1.SymJoin", spec := "symJoin", apart := false, narrowed := true }
def SymJoinUptoSaid : Prop := symJoinUptoRow.holds Try.pinned (OpenSpec.upto symJoinSpec)

end Rows
end Go.Proofs.Ytopjhhpbjpfbfaa
