/-
  DERIVED. GIVEN WITH THE SEED: THE CARDS: each row of YtpbnpghdhjminaaDoorRows.lean that lists a variable, with what it lists TIED to the program's text (the seventh form; the later family's looks); each row that meets fmt, with fmt's text TOLD by the authors' own Lean function (tested against real Go, not proved from fmt's source: count such statements apart). THE CARD IS WHAT COUNTS. Prove the row's statement (the work); the ties are given (YtpbnpghdhjminaaDoorTie.lean); close each card by the builder's one call (the guide's Derived/Test/ToyasCard.lean, 'card_holds'). Laid BY PROGRAM, IN A SANDBOX (cutbox-door.mjs). By AI agents, Wed Nov 11 2026. No macro, syntax, notation, axiom, sorry.
-/
import Derived.Test.YtpbnpghdhjminaaDoorRows
import GoSem.ClaimSeven
namespace Go.Proofs.YtpbnpghdhjminaaDoor
namespace Rows

/-- THE TIED CARD OF 'plaitinglaw3.ConfChecks'. -/
def confChecksCard : Claim7 := { stood := { row := confChecksRow, standIns := [], harness := (true, "c26aabd9013cef31617b8a647b7651900961c1247b0d36546d855b7df7ba9a4d"), looks := false }, kinds := [], alts := [], laidByText := true, laidKinds := [.wider], laidTests := true, laidLooks := .later }
def ConfChecksCardSaid : Prop := Claim7.holds Tryd.pinned (.plain (OpenSpec.ofChange confChecksSpec)) confChecksCard

/-- THE TIED CARD OF 'plaitinglaw3.ConfAll'. -/
def confAllCard : Claim7 := { stood := { row := confAllRow, standIns := [], harness := (true, "c26aabd9013cef31617b8a647b7651900961c1247b0d36546d855b7df7ba9a4d"), looks := false }, kinds := [], alts := [], laidByText := true, laidKinds := [.wider], laidTests := true, laidLooks := .later }
def ConfAllCardSaid : Prop := Claim7.holds Tryd.pinned (.plain (OpenSpec.ofChange confAllSpec)) confAllCard

/-- THE TIED CARD OF 'plaitinglaw3.ConfParts'. -/
def confPartsCard : Claim7 := { stood := { row := confPartsRow, standIns := [], harness := (true, "c26aabd9013cef31617b8a647b7651900961c1247b0d36546d855b7df7ba9a4d"), looks := false }, kinds := [], alts := [], laidByText := true, laidKinds := [.wider], laidTests := true, laidLooks := .later }
def ConfPartsCardSaid : Prop := Claim7.holds Tryd.pinned (.plain (OpenSpec.ofChange confPartsSpec)) confPartsCard

/-- THE TIED CARD OF 'plaitinglaw3.ConfRounds'. -/
def confRoundsCard : Claim7 := { stood := { row := confRoundsRow, standIns := [], harness := (true, "c26aabd9013cef31617b8a647b7651900961c1247b0d36546d855b7df7ba9a4d"), looks := false }, kinds := [], alts := [], laidByText := true, laidKinds := [.wider], laidTests := true, laidLooks := .later }
def ConfRoundsCardSaid : Prop := Claim7.holds Tryd.pinned (.plain (OpenSpec.ofChange confRoundsSpec)) confRoundsCard

/-- THE TIED CARD OF 'plaitinglaw3.ConfKnown'. -/
def confKnownCard : Claim7 := { stood := { row := confKnownRow, standIns := [], harness := (true, "c26aabd9013cef31617b8a647b7651900961c1247b0d36546d855b7df7ba9a4d"), looks := false }, kinds := [], alts := [], laidByText := true, laidKinds := [.wider], laidTests := true, laidLooks := .later }
def ConfKnownCardSaid : Prop := Claim7.holds Tryd.pinned (.plain (OpenSpec.ofChange confKnownSpec)) confKnownCard

/-- THE TIED CARD OF 'plaitinglaw3.ConfMost'. -/
def confMostCard : Claim7 := { stood := { row := confMostRow, standIns := [], harness := (true, "c26aabd9013cef31617b8a647b7651900961c1247b0d36546d855b7df7ba9a4d"), looks := false }, kinds := [], alts := [], laidByText := true, laidKinds := [.wider], laidTests := true, laidLooks := .later }
def ConfMostCardSaid : Prop := Claim7.holds Tryd.pinned (.plain (OpenSpec.ofChange confMostSpec)) confMostCard

/-- THE SECOND FORM's CARD OF 'plaitinglaw3.ConfChecks'. -/
def confChecksUptoCard : Claim7 := { stood := { row := confChecksUptoRow, standIns := [], harness := (true, "c26aabd9013cef31617b8a647b7651900961c1247b0d36546d855b7df7ba9a4d"), looks := false }, kinds := [], alts := [], laidByText := true, laidKinds := [.wider], laidTests := true, laidLooks := .later }
def ConfChecksUptoCardSaid : Prop := Claim7.holds Tryd.pinned (.plain (OpenSpec.upto confChecksSpec)) confChecksUptoCard

/-- THE SECOND FORM's CARD OF 'plaitinglaw3.ConfAll'. -/
def confAllUptoCard : Claim7 := { stood := { row := confAllUptoRow, standIns := [], harness := (true, "c26aabd9013cef31617b8a647b7651900961c1247b0d36546d855b7df7ba9a4d"), looks := false }, kinds := [], alts := [], laidByText := true, laidKinds := [.wider], laidTests := true, laidLooks := .later }
def ConfAllUptoCardSaid : Prop := Claim7.holds Tryd.pinned (.plain (OpenSpec.upto confAllSpec)) confAllUptoCard

/-- THE SECOND FORM's CARD OF 'plaitinglaw3.ConfParts'. -/
def confPartsUptoCard : Claim7 := { stood := { row := confPartsUptoRow, standIns := [], harness := (true, "c26aabd9013cef31617b8a647b7651900961c1247b0d36546d855b7df7ba9a4d"), looks := false }, kinds := [], alts := [], laidByText := true, laidKinds := [.wider], laidTests := true, laidLooks := .later }
def ConfPartsUptoCardSaid : Prop := Claim7.holds Tryd.pinned (.plain (OpenSpec.upto confPartsSpec)) confPartsUptoCard

/-- THE SECOND FORM's CARD OF 'plaitinglaw3.ConfRounds'. -/
def confRoundsUptoCard : Claim7 := { stood := { row := confRoundsUptoRow, standIns := [], harness := (true, "c26aabd9013cef31617b8a647b7651900961c1247b0d36546d855b7df7ba9a4d"), looks := false }, kinds := [], alts := [], laidByText := true, laidKinds := [.wider], laidTests := true, laidLooks := .later }
def ConfRoundsUptoCardSaid : Prop := Claim7.holds Tryd.pinned (.plain (OpenSpec.upto confRoundsSpec)) confRoundsUptoCard

/-- THE SECOND FORM's CARD OF 'plaitinglaw3.ConfKnown'. -/
def confKnownUptoCard : Claim7 := { stood := { row := confKnownUptoRow, standIns := [], harness := (true, "c26aabd9013cef31617b8a647b7651900961c1247b0d36546d855b7df7ba9a4d"), looks := false }, kinds := [], alts := [], laidByText := true, laidKinds := [.wider], laidTests := true, laidLooks := .later }
def ConfKnownUptoCardSaid : Prop := Claim7.holds Tryd.pinned (.plain (OpenSpec.upto confKnownSpec)) confKnownUptoCard

/-- THE SECOND FORM's CARD OF 'plaitinglaw3.ConfMost'. -/
def confMostUptoCard : Claim7 := { stood := { row := confMostUptoRow, standIns := [], harness := (true, "c26aabd9013cef31617b8a647b7651900961c1247b0d36546d855b7df7ba9a4d"), looks := false }, kinds := [], alts := [], laidByText := true, laidKinds := [.wider], laidTests := true, laidLooks := .later }
def ConfMostUptoCardSaid : Prop := Claim7.holds Tryd.pinned (.plain (OpenSpec.upto confMostSpec)) confMostUptoCard
end Rows
end Go.Proofs.YtpbnpghdhjminaaDoor
