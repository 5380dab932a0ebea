/-
  DERIVED. GIVEN WITH THE SEED: THE CARDS: each row of YtkflijbhlibadabDoorRows.lean that lists a variable, with what it lists TIED to the program's text (the seventh form; the later family's looks); each row that meets fmt, with fmt's text TOLD by the authors' own Lean function (tested against real Go, not proved from fmt's source: count such statements apart). THE CARD IS WHAT COUNTS. Prove the row's statement (the work); the ties are given (YtkflijbhlibadabDoorTie.lean); close each card by the builder's one call (the guide's Derived/Test/ToyasCard.lean, 'card_holds'). Laid BY PROGRAM, IN A SANDBOX (cutbox-door.mjs). By AI agents, Wed Nov 11 2026. No macro, syntax, notation, axiom, sorry.
-/
import Derived.Test.YtkflijbhlibadabDoorRows
import GoSem.ClaimSeven
namespace Go.Proofs.YtkflijbhlibadabDoor
namespace Rows

/-- THE TIED CARD OF 'plaitinglaw10.ArbRight'. -/
def arbRightCard : Claim7 := { stood := { row := arbRightRow, standIns := [], harness := (true, "006ea62dc85fac090e9905e82acde7d14dedde7539dceda8060da74993108850"), looks := true }, kinds := [], alts := [], laidByText := true, laidKinds := [.wider], laidTests := true, laidLooks := .later }
def ArbRightCardSaid : Prop := Claim7.holds Tryd.pinned (.plain (OpenSpec.ofChange arbRightSpec)) arbRightCard

/-- THE TIED CARD OF 'plaitinglaw10.ArbPick'. -/
def arbPickCard : Claim7 := { stood := { row := arbPickRow, standIns := [], harness := (true, "006ea62dc85fac090e9905e82acde7d14dedde7539dceda8060da74993108850"), looks := true }, kinds := [], alts := [], laidByText := true, laidKinds := [.wider], laidTests := true, laidLooks := .later }
def ArbPickCardSaid : Prop := Claim7.holds Tryd.pinned (.plain (OpenSpec.ofChange arbPickSpec)) arbPickCard

/-- THE TIED CARD OF 'plaitinglaw10.ArbRules'. -/
def arbRulesCard : Claim7 := { stood := { row := arbRulesRow, standIns := [], harness := (true, "006ea62dc85fac090e9905e82acde7d14dedde7539dceda8060da74993108850"), looks := true }, kinds := [], alts := [], laidByText := true, laidKinds := [.wider], laidTests := true, laidLooks := .later }
def ArbRulesCardSaid : Prop := Claim7.holds Tryd.pinned (.plain (OpenSpec.ofChange arbRulesSpec)) arbRulesCard

/-- THE TIED CARD OF 'plaitinglaw10.ArbPairs'. -/
def arbPairsCard : Claim7 := { stood := { row := arbPairsRow, standIns := [], harness := (true, "006ea62dc85fac090e9905e82acde7d14dedde7539dceda8060da74993108850"), looks := true }, kinds := [], alts := [], laidByText := true, laidKinds := [.wider], laidTests := true, laidLooks := .later }
def ArbPairsCardSaid : Prop := Claim7.holds Tryd.pinned (.plain (OpenSpec.ofChange arbPairsSpec)) arbPairsCard

/-- THE TIED CARD OF 'plaitinglaw10.ArbRounds'. -/
def arbRoundsCard : Claim7 := { stood := { row := arbRoundsRow, standIns := [], harness := (true, "006ea62dc85fac090e9905e82acde7d14dedde7539dceda8060da74993108850"), looks := true }, kinds := [], alts := [], laidByText := true, laidKinds := [.wider], laidTests := true, laidLooks := .later }
def ArbRoundsCardSaid : Prop := Claim7.holds Tryd.pinned (.plain (OpenSpec.ofChange arbRoundsSpec)) arbRoundsCard

/-- THE TIED CARD OF 'plaitinglaw10.ArbTurned'. -/
def arbTurnedCard : Claim7 := { stood := { row := arbTurnedRow, standIns := [], harness := (true, "006ea62dc85fac090e9905e82acde7d14dedde7539dceda8060da74993108850"), looks := true }, kinds := [], alts := [], laidByText := true, laidKinds := [.wider], laidTests := true, laidLooks := .later }
def ArbTurnedCardSaid : Prop := Claim7.holds Tryd.pinned (.plain (OpenSpec.ofChange arbTurnedSpec)) arbTurnedCard

/-- THE SECOND FORM's CARD OF 'plaitinglaw10.ArbRight'. -/
def arbRightUptoCard : Claim7 := { stood := { row := arbRightUptoRow, standIns := [], harness := (true, "006ea62dc85fac090e9905e82acde7d14dedde7539dceda8060da74993108850"), looks := true }, kinds := [], alts := [], laidByText := true, laidKinds := [.wider], laidTests := true, laidLooks := .later }
def ArbRightUptoCardSaid : Prop := Claim7.holds Tryd.pinned (.plain (OpenSpec.upto arbRightSpec)) arbRightUptoCard

/-- THE SECOND FORM's CARD OF 'plaitinglaw10.ArbPick'. -/
def arbPickUptoCard : Claim7 := { stood := { row := arbPickUptoRow, standIns := [], harness := (true, "006ea62dc85fac090e9905e82acde7d14dedde7539dceda8060da74993108850"), looks := true }, kinds := [], alts := [], laidByText := true, laidKinds := [.wider], laidTests := true, laidLooks := .later }
def ArbPickUptoCardSaid : Prop := Claim7.holds Tryd.pinned (.plain (OpenSpec.upto arbPickSpec)) arbPickUptoCard

/-- THE SECOND FORM's CARD OF 'plaitinglaw10.ArbRules'. -/
def arbRulesUptoCard : Claim7 := { stood := { row := arbRulesUptoRow, standIns := [], harness := (true, "006ea62dc85fac090e9905e82acde7d14dedde7539dceda8060da74993108850"), looks := true }, kinds := [], alts := [], laidByText := true, laidKinds := [.wider], laidTests := true, laidLooks := .later }
def ArbRulesUptoCardSaid : Prop := Claim7.holds Tryd.pinned (.plain (OpenSpec.upto arbRulesSpec)) arbRulesUptoCard

/-- THE SECOND FORM's CARD OF 'plaitinglaw10.ArbPairs'. -/
def arbPairsUptoCard : Claim7 := { stood := { row := arbPairsUptoRow, standIns := [], harness := (true, "006ea62dc85fac090e9905e82acde7d14dedde7539dceda8060da74993108850"), looks := true }, kinds := [], alts := [], laidByText := true, laidKinds := [.wider], laidTests := true, laidLooks := .later }
def ArbPairsUptoCardSaid : Prop := Claim7.holds Tryd.pinned (.plain (OpenSpec.upto arbPairsSpec)) arbPairsUptoCard

/-- THE SECOND FORM's CARD OF 'plaitinglaw10.ArbRounds'. -/
def arbRoundsUptoCard : Claim7 := { stood := { row := arbRoundsUptoRow, standIns := [], harness := (true, "006ea62dc85fac090e9905e82acde7d14dedde7539dceda8060da74993108850"), looks := true }, kinds := [], alts := [], laidByText := true, laidKinds := [.wider], laidTests := true, laidLooks := .later }
def ArbRoundsUptoCardSaid : Prop := Claim7.holds Tryd.pinned (.plain (OpenSpec.upto arbRoundsSpec)) arbRoundsUptoCard

/-- THE SECOND FORM's CARD OF 'plaitinglaw10.ArbTurned'. -/
def arbTurnedUptoCard : Claim7 := { stood := { row := arbTurnedUptoRow, standIns := [], harness := (true, "006ea62dc85fac090e9905e82acde7d14dedde7539dceda8060da74993108850"), looks := true }, kinds := [], alts := [], laidByText := true, laidKinds := [.wider], laidTests := true, laidLooks := .later }
def ArbTurnedUptoCardSaid : Prop := Claim7.holds Tryd.pinned (.plain (OpenSpec.upto arbTurnedSpec)) arbTurnedUptoCard
end Rows
end Go.Proofs.YtkflijbhlibadabDoor
