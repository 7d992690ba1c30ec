/-
  DERIVED. GIVEN WITH THE SEED: THE CARDS: each row of YtpkkpjonlogliaaDoorRows.lean that lists a variable, with what it lists TIED to the program's text (the seventh form; the later family's looks); each row that meets fmt, with fmt's text TOLD by the authors' own Lean function (tested against real Go, not proved from fmt's source: count such statements apart). THE CARD IS WHAT COUNTS. Prove the row's statement (the work); the ties are given (YtpkkpjonlogliaaDoorTie.lean); close each card by the builder's one call (the guide's Derived/Test/ToyasCard.lean, 'card_holds'). Laid BY PROGRAM, IN A SANDBOX (cutbox-door.mjs). By AI agents, Wed Nov 11 2026. No macro, syntax, notation, axiom, sorry.
-/
import Derived.Test.YtpkkpjonlogliaaDoorRows
import GoSem.ClaimSeven
namespace Go.Proofs.YtpkkpjonlogliaaDoor
namespace Rows

/-- THE TIED CARD OF 'mailcoachlaw10.IdentTells'. -/
def identTellsCard : Claim7 := { stood := { row := identTellsRow, standIns := [], harness := (true, "cb61a5447424f142a5ed4f6fd7d87fb92a0ce279eeea4f4d37ad52ccbc0b26c8"), looks := false }, kinds := [], alts := [], laidByText := true, laidKinds := [.data, .data, .pinned], laidTests := true, laidLooks := .later }
def IdentTellsCardSaid : Prop := Claim7.holds Tryd.pinned (.plain (OpenSpec.ofChange identTellsSpec)) identTellsCard

/-- THE TIED CARD OF 'mailcoachlaw10.IdentOnce'. -/
def identOnceCard : Claim7 := { stood := { row := identOnceRow, standIns := [], harness := (true, "cb61a5447424f142a5ed4f6fd7d87fb92a0ce279eeea4f4d37ad52ccbc0b26c8"), looks := false }, kinds := [], alts := [], laidByText := true, laidKinds := [.data, .data, .pinned], laidTests := true, laidLooks := .later }
def IdentOnceCardSaid : Prop := Claim7.holds Tryd.pinned (.plain (OpenSpec.ofChange identOnceSpec)) identOnceCard

/-- THE TIED CARD OF 'mailcoachlaw10.IdentKnown'. -/
def identKnownCard : Claim7 := { stood := { row := identKnownRow, standIns := [], harness := (true, "cb61a5447424f142a5ed4f6fd7d87fb92a0ce279eeea4f4d37ad52ccbc0b26c8"), looks := false }, kinds := [], alts := [], laidByText := true, laidKinds := [.data, .data, .pinned], laidTests := true, laidLooks := .later }
def IdentKnownCardSaid : Prop := Claim7.holds Tryd.pinned (.plain (OpenSpec.ofChange identKnownSpec)) identKnownCard

/-- THE TIED CARD OF 'mailcoachlaw10.IdentParts'. -/
def identPartsCard : Claim7 := { stood := { row := identPartsRow, standIns := [], harness := (true, "cb61a5447424f142a5ed4f6fd7d87fb92a0ce279eeea4f4d37ad52ccbc0b26c8"), looks := false }, kinds := [], alts := [], laidByText := true, laidKinds := [.data, .data, .pinned], laidTests := true, laidLooks := .later }
def IdentPartsCardSaid : Prop := Claim7.holds Tryd.pinned (.plain (OpenSpec.ofChange identPartsSpec)) identPartsCard

/-- THE TIED CARD OF 'mailcoachlaw10.IdentKeys'. -/
def identKeysCard : Claim7 := { stood := { row := identKeysRow, standIns := [], harness := (true, "cb61a5447424f142a5ed4f6fd7d87fb92a0ce279eeea4f4d37ad52ccbc0b26c8"), looks := false }, kinds := [], alts := [], laidByText := true, laidKinds := [.data, .data, .pinned], laidTests := true, laidLooks := .later }
def IdentKeysCardSaid : Prop := Claim7.holds Tryd.pinned (.plain (OpenSpec.ofChange identKeysSpec)) identKeysCard

/-- THE SECOND FORM's CARD OF 'mailcoachlaw10.IdentTells'. -/
def identTellsUptoCard : Claim7 := { stood := { row := identTellsUptoRow, standIns := [], harness := (true, "cb61a5447424f142a5ed4f6fd7d87fb92a0ce279eeea4f4d37ad52ccbc0b26c8"), looks := false }, kinds := [], alts := [], laidByText := true, laidKinds := [.data, .data, .pinned], laidTests := true, laidLooks := .later }
def IdentTellsUptoCardSaid : Prop := Claim7.holds Tryd.pinned (.plain (OpenSpec.upto identTellsSpec)) identTellsUptoCard

/-- THE SECOND FORM's CARD OF 'mailcoachlaw10.IdentOnce'. -/
def identOnceUptoCard : Claim7 := { stood := { row := identOnceUptoRow, standIns := [], harness := (true, "cb61a5447424f142a5ed4f6fd7d87fb92a0ce279eeea4f4d37ad52ccbc0b26c8"), looks := false }, kinds := [], alts := [], laidByText := true, laidKinds := [.data, .data, .pinned], laidTests := true, laidLooks := .later }
def IdentOnceUptoCardSaid : Prop := Claim7.holds Tryd.pinned (.plain (OpenSpec.upto identOnceSpec)) identOnceUptoCard

/-- THE SECOND FORM's CARD OF 'mailcoachlaw10.IdentKnown'. -/
def identKnownUptoCard : Claim7 := { stood := { row := identKnownUptoRow, standIns := [], harness := (true, "cb61a5447424f142a5ed4f6fd7d87fb92a0ce279eeea4f4d37ad52ccbc0b26c8"), looks := false }, kinds := [], alts := [], laidByText := true, laidKinds := [.data, .data, .pinned], laidTests := true, laidLooks := .later }
def IdentKnownUptoCardSaid : Prop := Claim7.holds Tryd.pinned (.plain (OpenSpec.upto identKnownSpec)) identKnownUptoCard

/-- THE SECOND FORM's CARD OF 'mailcoachlaw10.IdentParts'. -/
def identPartsUptoCard : Claim7 := { stood := { row := identPartsUptoRow, standIns := [], harness := (true, "cb61a5447424f142a5ed4f6fd7d87fb92a0ce279eeea4f4d37ad52ccbc0b26c8"), looks := false }, kinds := [], alts := [], laidByText := true, laidKinds := [.data, .data, .pinned], laidTests := true, laidLooks := .later }
def IdentPartsUptoCardSaid : Prop := Claim7.holds Tryd.pinned (.plain (OpenSpec.upto identPartsSpec)) identPartsUptoCard

/-- THE SECOND FORM's CARD OF 'mailcoachlaw10.IdentKeys'. -/
def identKeysUptoCard : Claim7 := { stood := { row := identKeysUptoRow, standIns := [], harness := (true, "cb61a5447424f142a5ed4f6fd7d87fb92a0ce279eeea4f4d37ad52ccbc0b26c8"), looks := false }, kinds := [], alts := [], laidByText := true, laidKinds := [.data, .data, .pinned], laidTests := true, laidLooks := .later }
def IdentKeysUptoCardSaid : Prop := Claim7.holds Tryd.pinned (.plain (OpenSpec.upto identKeysSpec)) identKeysUptoCard
end Rows
end Go.Proofs.YtpkkpjonlogliaaDoor
