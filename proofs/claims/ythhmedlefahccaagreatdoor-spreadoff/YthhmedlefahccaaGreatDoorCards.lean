/-
  DERIVED. GIVEN WITH THE SEED: THE CARDS: each row of YthhmedlefahccaaGreatDoorRows.lean that lists a variable, with what it lists TIED to the program's text (the seventh form; the later family's looks); each row that meets fmt, with fmt's text TOLD by the authors' own Lean function (tested against real Go, not proved from fmt's source: count such statements apart). THE CARD IS WHAT COUNTS. Prove the row's statement (the work); the ties are given (YthhmedlefahccaaGreatDoorTie.lean); close each card by the builder's one call (the guide's Derived/Test/ToyasCard.lean, 'card_holds'). Laid BY PROGRAM, IN A SANDBOX (cutbox-door.mjs). By AI agents, Wed Nov 11 2026. No macro, syntax, notation, axiom, sorry.
-/
import Derived.Test.YthhmedlefahccaaGreatDoorRows
import GoSem.ClaimSeven
namespace Go.Proofs.YthhmedlefahccaaGreatDoor
namespace Rows

/-- THE TIED CARD OF 'plaitinglaw9.SpreadAll'. -/
def spreadAllCard : Claim7 := { stood := { row := spreadAllRow, standIns := [], harness := (true, "a5d9b23e4875e2a8724f766127c8c96d56c0320895d1daccf55c75c2fb92346b"), looks := false }, kinds := [], alts := [], laidByText := true, laidKinds := [.wider], laidTests := true, laidLooks := .later }
def SpreadAllCardSaid : Prop := Claim7.holds Tryz.pinned (.plain (OpenSpec.ofChange spreadAllSpec)) spreadAllCard

/-- THE TIED CARD OF 'plaitinglaw9.SpreadContained'. -/
def spreadContainedCard : Claim7 := { stood := { row := spreadContainedRow, standIns := [], harness := (true, "a5d9b23e4875e2a8724f766127c8c96d56c0320895d1daccf55c75c2fb92346b"), looks := false }, kinds := [], alts := [], laidByText := true, laidKinds := [.wider], laidTests := true, laidLooks := .later }
def SpreadContainedCardSaid : Prop := Claim7.holds Tryz.pinned (.plain (OpenSpec.ofChange spreadContainedSpec)) spreadContainedCard

/-- THE TIED CARD OF 'plaitinglaw9.SpreadReaches'. -/
def spreadReachesCard : Claim7 := { stood := { row := spreadReachesRow, standIns := [], harness := (true, "a5d9b23e4875e2a8724f766127c8c96d56c0320895d1daccf55c75c2fb92346b"), looks := false }, kinds := [], alts := [], laidByText := true, laidKinds := [.wider], laidTests := true, laidLooks := .later }
def SpreadReachesCardSaid : Prop := Claim7.holds Tryz.pinned (.plain (OpenSpec.ofChange spreadReachesSpec)) spreadReachesCard

/-- THE TIED CARD OF 'plaitinglaw9.SpreadPairs'. -/
def spreadPairsCard : Claim7 := { stood := { row := spreadPairsRow, standIns := [], harness := (true, "a5d9b23e4875e2a8724f766127c8c96d56c0320895d1daccf55c75c2fb92346b"), looks := false }, kinds := [], alts := [], laidByText := true, laidKinds := [.wider], laidTests := true, laidLooks := .later }
def SpreadPairsCardSaid : Prop := Claim7.holds Tryz.pinned (.plain (OpenSpec.ofChange spreadPairsSpec)) spreadPairsCard

/-- THE TIED CARD OF 'plaitinglaw9.SpreadCalm'. -/
def spreadCalmCard : Claim7 := { stood := { row := spreadCalmRow, standIns := [], harness := (true, "a5d9b23e4875e2a8724f766127c8c96d56c0320895d1daccf55c75c2fb92346b"), looks := false }, kinds := [], alts := [], laidByText := true, laidKinds := [.wider], laidTests := true, laidLooks := .later }
def SpreadCalmCardSaid : Prop := Claim7.holds Tryz.pinned (.plain (OpenSpec.ofChange spreadCalmSpec)) spreadCalmCard

/-- THE TIED CARD OF 'plaitinglaw9.SpreadCut'. -/
def spreadCutCard : Claim7 := { stood := { row := spreadCutRow, standIns := [], harness := (true, "a5d9b23e4875e2a8724f766127c8c96d56c0320895d1daccf55c75c2fb92346b"), looks := false }, kinds := [], alts := [], laidByText := true, laidKinds := [.wider], laidTests := true, laidLooks := .later }
def SpreadCutCardSaid : Prop := Claim7.holds Tryz.pinned (.plain (OpenSpec.ofChange spreadCutSpec)) spreadCutCard

/-- THE TIED CARD OF 'plaitinglaw9.SpreadLink'. -/
def spreadLinkCard : Claim7 := { stood := { row := spreadLinkRow, standIns := [], harness := (true, "a5d9b23e4875e2a8724f766127c8c96d56c0320895d1daccf55c75c2fb92346b"), looks := false }, kinds := [], alts := [], laidByText := true, laidKinds := [.wider], laidTests := true, laidLooks := .later }
def SpreadLinkCardSaid : Prop := Claim7.holds Tryz.pinned (.plain (OpenSpec.ofChange spreadLinkSpec)) spreadLinkCard

/-- THE TIED CARD OF 'plaitinglaw9.SpreadOff'. -/
def spreadOffCard : Claim7 := { stood := { row := spreadOffRow, standIns := [], harness := (true, "a5d9b23e4875e2a8724f766127c8c96d56c0320895d1daccf55c75c2fb92346b"), looks := false }, kinds := [], alts := [], laidByText := true, laidKinds := [.wider], laidTests := true, laidLooks := .later }
def SpreadOffCardSaid : Prop := Claim7.holds Tryz.pinned (.plain (OpenSpec.ofChange spreadOffSpec)) spreadOffCard

/-- THE TIED CARD OF 'plaitinglaw9.SpreadGuard'. -/
def spreadGuardCard : Claim7 := { stood := { row := spreadGuardRow, standIns := [], harness := (true, "a5d9b23e4875e2a8724f766127c8c96d56c0320895d1daccf55c75c2fb92346b"), looks := false }, kinds := [], alts := [], laidByText := true, laidKinds := [.wider], laidTests := true, laidLooks := .later }
def SpreadGuardCardSaid : Prop := Claim7.holds Tryz.pinned (.plain (OpenSpec.ofChange spreadGuardSpec)) spreadGuardCard

/-- THE TIED CARD OF 'plaitinglaw9.SpreadBabble'. -/
def spreadBabbleCard : Claim7 := { stood := { row := spreadBabbleRow, standIns := [], harness := (true, "a5d9b23e4875e2a8724f766127c8c96d56c0320895d1daccf55c75c2fb92346b"), looks := false }, kinds := [], alts := [], laidByText := true, laidKinds := [.wider], laidTests := true, laidLooks := .later }
def SpreadBabbleCardSaid : Prop := Claim7.holds Tryz.pinned (.plain (OpenSpec.ofChange spreadBabbleSpec)) spreadBabbleCard

/-- THE TIED CARD OF 'plaitinglaw9.SpreadOwner'. -/
def spreadOwnerCard : Claim7 := { stood := { row := spreadOwnerRow, standIns := [], harness := (true, "a5d9b23e4875e2a8724f766127c8c96d56c0320895d1daccf55c75c2fb92346b"), looks := false }, kinds := [], alts := [], laidByText := true, laidKinds := [.wider], laidTests := true, laidLooks := .later }
def SpreadOwnerCardSaid : Prop := Claim7.holds Tryz.pinned (.plain (OpenSpec.ofChange spreadOwnerSpec)) spreadOwnerCard

/-- THE TIED CARD OF 'plaitinglaw9.SpreadMirror'. -/
def spreadMirrorCard : Claim7 := { stood := { row := spreadMirrorRow, standIns := [], harness := (true, "a5d9b23e4875e2a8724f766127c8c96d56c0320895d1daccf55c75c2fb92346b"), looks := false }, kinds := [], alts := [], laidByText := true, laidKinds := [.wider], laidTests := true, laidLooks := .later }
def SpreadMirrorCardSaid : Prop := Claim7.holds Tryz.pinned (.plain (OpenSpec.ofChange spreadMirrorSpec)) spreadMirrorCard

/-- THE SECOND FORM's CARD OF 'plaitinglaw9.SpreadAll'. -/
def spreadAllUptoCard : Claim7 := { stood := { row := spreadAllUptoRow, standIns := [], harness := (true, "a5d9b23e4875e2a8724f766127c8c96d56c0320895d1daccf55c75c2fb92346b"), looks := false }, kinds := [], alts := [], laidByText := true, laidKinds := [.wider], laidTests := true, laidLooks := .later }
def SpreadAllUptoCardSaid : Prop := Claim7.holds Tryz.pinned (.plain (OpenSpec.upto spreadAllSpec)) spreadAllUptoCard

/-- THE SECOND FORM's CARD OF 'plaitinglaw9.SpreadContained'. -/
def spreadContainedUptoCard : Claim7 := { stood := { row := spreadContainedUptoRow, standIns := [], harness := (true, "a5d9b23e4875e2a8724f766127c8c96d56c0320895d1daccf55c75c2fb92346b"), looks := false }, kinds := [], alts := [], laidByText := true, laidKinds := [.wider], laidTests := true, laidLooks := .later }
def SpreadContainedUptoCardSaid : Prop := Claim7.holds Tryz.pinned (.plain (OpenSpec.upto spreadContainedSpec)) spreadContainedUptoCard

/-- THE SECOND FORM's CARD OF 'plaitinglaw9.SpreadReaches'. -/
def spreadReachesUptoCard : Claim7 := { stood := { row := spreadReachesUptoRow, standIns := [], harness := (true, "a5d9b23e4875e2a8724f766127c8c96d56c0320895d1daccf55c75c2fb92346b"), looks := false }, kinds := [], alts := [], laidByText := true, laidKinds := [.wider], laidTests := true, laidLooks := .later }
def SpreadReachesUptoCardSaid : Prop := Claim7.holds Tryz.pinned (.plain (OpenSpec.upto spreadReachesSpec)) spreadReachesUptoCard

/-- THE SECOND FORM's CARD OF 'plaitinglaw9.SpreadPairs'. -/
def spreadPairsUptoCard : Claim7 := { stood := { row := spreadPairsUptoRow, standIns := [], harness := (true, "a5d9b23e4875e2a8724f766127c8c96d56c0320895d1daccf55c75c2fb92346b"), looks := false }, kinds := [], alts := [], laidByText := true, laidKinds := [.wider], laidTests := true, laidLooks := .later }
def SpreadPairsUptoCardSaid : Prop := Claim7.holds Tryz.pinned (.plain (OpenSpec.upto spreadPairsSpec)) spreadPairsUptoCard

/-- THE SECOND FORM's CARD OF 'plaitinglaw9.SpreadCalm'. -/
def spreadCalmUptoCard : Claim7 := { stood := { row := spreadCalmUptoRow, standIns := [], harness := (true, "a5d9b23e4875e2a8724f766127c8c96d56c0320895d1daccf55c75c2fb92346b"), looks := false }, kinds := [], alts := [], laidByText := true, laidKinds := [.wider], laidTests := true, laidLooks := .later }
def SpreadCalmUptoCardSaid : Prop := Claim7.holds Tryz.pinned (.plain (OpenSpec.upto spreadCalmSpec)) spreadCalmUptoCard

/-- THE SECOND FORM's CARD OF 'plaitinglaw9.SpreadCut'. -/
def spreadCutUptoCard : Claim7 := { stood := { row := spreadCutUptoRow, standIns := [], harness := (true, "a5d9b23e4875e2a8724f766127c8c96d56c0320895d1daccf55c75c2fb92346b"), looks := false }, kinds := [], alts := [], laidByText := true, laidKinds := [.wider], laidTests := true, laidLooks := .later }
def SpreadCutUptoCardSaid : Prop := Claim7.holds Tryz.pinned (.plain (OpenSpec.upto spreadCutSpec)) spreadCutUptoCard

/-- THE SECOND FORM's CARD OF 'plaitinglaw9.SpreadLink'. -/
def spreadLinkUptoCard : Claim7 := { stood := { row := spreadLinkUptoRow, standIns := [], harness := (true, "a5d9b23e4875e2a8724f766127c8c96d56c0320895d1daccf55c75c2fb92346b"), looks := false }, kinds := [], alts := [], laidByText := true, laidKinds := [.wider], laidTests := true, laidLooks := .later }
def SpreadLinkUptoCardSaid : Prop := Claim7.holds Tryz.pinned (.plain (OpenSpec.upto spreadLinkSpec)) spreadLinkUptoCard

/-- THE SECOND FORM's CARD OF 'plaitinglaw9.SpreadOff'. -/
def spreadOffUptoCard : Claim7 := { stood := { row := spreadOffUptoRow, standIns := [], harness := (true, "a5d9b23e4875e2a8724f766127c8c96d56c0320895d1daccf55c75c2fb92346b"), looks := false }, kinds := [], alts := [], laidByText := true, laidKinds := [.wider], laidTests := true, laidLooks := .later }
def SpreadOffUptoCardSaid : Prop := Claim7.holds Tryz.pinned (.plain (OpenSpec.upto spreadOffSpec)) spreadOffUptoCard

/-- THE SECOND FORM's CARD OF 'plaitinglaw9.SpreadGuard'. -/
def spreadGuardUptoCard : Claim7 := { stood := { row := spreadGuardUptoRow, standIns := [], harness := (true, "a5d9b23e4875e2a8724f766127c8c96d56c0320895d1daccf55c75c2fb92346b"), looks := false }, kinds := [], alts := [], laidByText := true, laidKinds := [.wider], laidTests := true, laidLooks := .later }
def SpreadGuardUptoCardSaid : Prop := Claim7.holds Tryz.pinned (.plain (OpenSpec.upto spreadGuardSpec)) spreadGuardUptoCard

/-- THE SECOND FORM's CARD OF 'plaitinglaw9.SpreadBabble'. -/
def spreadBabbleUptoCard : Claim7 := { stood := { row := spreadBabbleUptoRow, standIns := [], harness := (true, "a5d9b23e4875e2a8724f766127c8c96d56c0320895d1daccf55c75c2fb92346b"), looks := false }, kinds := [], alts := [], laidByText := true, laidKinds := [.wider], laidTests := true, laidLooks := .later }
def SpreadBabbleUptoCardSaid : Prop := Claim7.holds Tryz.pinned (.plain (OpenSpec.upto spreadBabbleSpec)) spreadBabbleUptoCard

/-- THE SECOND FORM's CARD OF 'plaitinglaw9.SpreadOwner'. -/
def spreadOwnerUptoCard : Claim7 := { stood := { row := spreadOwnerUptoRow, standIns := [], harness := (true, "a5d9b23e4875e2a8724f766127c8c96d56c0320895d1daccf55c75c2fb92346b"), looks := false }, kinds := [], alts := [], laidByText := true, laidKinds := [.wider], laidTests := true, laidLooks := .later }
def SpreadOwnerUptoCardSaid : Prop := Claim7.holds Tryz.pinned (.plain (OpenSpec.upto spreadOwnerSpec)) spreadOwnerUptoCard

/-- THE SECOND FORM's CARD OF 'plaitinglaw9.SpreadMirror'. -/
def spreadMirrorUptoCard : Claim7 := { stood := { row := spreadMirrorUptoRow, standIns := [], harness := (true, "a5d9b23e4875e2a8724f766127c8c96d56c0320895d1daccf55c75c2fb92346b"), looks := false }, kinds := [], alts := [], laidByText := true, laidKinds := [.wider], laidTests := true, laidLooks := .later }
def SpreadMirrorUptoCardSaid : Prop := Claim7.holds Tryz.pinned (.plain (OpenSpec.upto spreadMirrorSpec)) spreadMirrorUptoCard
end Rows
end Go.Proofs.YthhmedlefahccaaGreatDoor
