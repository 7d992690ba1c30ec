/-
  DERIVED. GIVEN WITH THE SEED: THE CARDS: each row of YtpkbcomdkamglaaGreatDoorRows.lean that lists a variable, with what it lists TIED to the program's text (the seventh form; the later family's looks); each row that meets fmt, with fmt's text TOLD by the authors' own Lean function (tested against real Go, not proved from fmt's source: count such statements apart). THE CARD IS WHAT COUNTS. Prove the row's statement (the work); the ties are given (YtpkbcomdkamglaaGreatDoorTie.lean); close each card by the builder's one call (the guide's Derived/Test/ToyasCard.lean, 'card_holds'). Laid BY PROGRAM, IN A SANDBOX (cutbox-door.mjs). By AI agents, Wed Nov 11 2026. No macro, syntax, notation, axiom, sorry.
-/
import Derived.Test.YtpkbcomdkamglaaGreatDoorRows
import GoSem.ClaimSeven
namespace Go.Proofs.YtpkbcomdkamglaaGreatDoor
namespace Rows

/-- THE TIED CARD OF 'mailcoachlaw11.PlainTells'. -/
def plainTellsCard : Claim7 := { stood := { row := plainTellsRow, standIns := [], harness := (true, "a86c3f6e28a99762965fe4232db82ba1cc3910c9fb3cbb0737fbf3af9137c496"), looks := true }, kinds := [], alts := [], laidByText := true, laidKinds := [.data, .data, .data, .data, .sentinel, .sentinel, .pinned, .pinned], laidTests := true, laidLooks := .later }
def PlainTellsCardSaid : Prop := Claim7.holds Tryz.pinned (.plain (OpenSpec.ofChange plainTellsSpec)) plainTellsCard

/-- THE TIED CARD OF 'mailcoachlaw11.PlainWraps'. -/
def plainWrapsCard : Claim7 := { stood := { row := plainWrapsRow, standIns := [], harness := (true, "a86c3f6e28a99762965fe4232db82ba1cc3910c9fb3cbb0737fbf3af9137c496"), looks := true }, kinds := [], alts := [], laidByText := true, laidKinds := [.data, .data, .data, .data, .sentinel, .sentinel, .pinned, .pinned], laidTests := true, laidLooks := .later }
def PlainWrapsCardSaid : Prop := Claim7.holds Tryz.pinned (.plain (OpenSpec.ofChange plainWrapsSpec)) plainWrapsCard

/-- THE SECOND FORM's CARD OF 'mailcoachlaw11.PlainTells'. -/
def plainTellsUptoCard : Claim7 := { stood := { row := plainTellsUptoRow, standIns := [], harness := (true, "a86c3f6e28a99762965fe4232db82ba1cc3910c9fb3cbb0737fbf3af9137c496"), looks := true }, kinds := [], alts := [], laidByText := true, laidKinds := [.data, .data, .data, .data, .sentinel, .sentinel, .pinned, .pinned], laidTests := true, laidLooks := .later }
def PlainTellsUptoCardSaid : Prop := Claim7.holds Tryz.pinned (.plain (OpenSpec.upto plainTellsSpec)) plainTellsUptoCard

/-- THE SECOND FORM's CARD OF 'mailcoachlaw11.PlainWraps'. -/
def plainWrapsUptoCard : Claim7 := { stood := { row := plainWrapsUptoRow, standIns := [], harness := (true, "a86c3f6e28a99762965fe4232db82ba1cc3910c9fb3cbb0737fbf3af9137c496"), looks := true }, kinds := [], alts := [], laidByText := true, laidKinds := [.data, .data, .data, .data, .sentinel, .sentinel, .pinned, .pinned], laidTests := true, laidLooks := .later }
def PlainWrapsUptoCardSaid : Prop := Claim7.holds Tryz.pinned (.plain (OpenSpec.upto plainWrapsSpec)) plainWrapsUptoCard
end Rows
end Go.Proofs.YtpkbcomdkamglaaGreatDoor
