/-
  DERIVED. GIVEN WITH THE SEED: THE CARDS: each row of YtcmdjpgabkjbpaaGreatDoorRows.lean that lists a variable, with what it lists TIED to the program's text (the seventh form; the later family's looks); each row that meets fmt, with fmt's text TOLD by the authors' own Lean function (tested against real Go, not proved from fmt's source: count such statements apart). THE CARD IS WHAT COUNTS. Prove the row's statement (the work); the ties are given (YtcmdjpgabkjbpaaGreatDoorTie.lean); close each card by the builder's one call (the guide's Derived/Test/ToyasCard.lean, 'card_holds'). Laid BY PROGRAM, IN A SANDBOX (cutbox-door.mjs). By AI agents, Wed Nov 11 2026. No macro, syntax, notation, axiom, sorry.
-/
import Derived.Test.YtcmdjpgabkjbpaaGreatDoorRows
import GoSem.ClaimSeven
namespace Go.Proofs.YtcmdjpgabkjbpaaGreatDoor
namespace Rows

/-- THE TIED CARD OF 'mailcoachlaw05.CronParses'. -/
def cronParsesCard : Claim7 := { stood := { row := cronParsesRow, standIns := [], harness := (true, "1652728355561d41decd5b32bf80f367ca992637f211eb86b5627178ab970d12"), looks := true }, kinds := [], alts := [], laidByText := true, laidKinds := [.data, .data, .data, .data, .pinned, .pinned], laidTests := true, laidLooks := .later }
def CronParsesCardSaid : Prop := Claim7.holds Tryz.pinned (.plain (OpenSpec.ofChange cronParsesSpec)) cronParsesCard

/-- THE TIED CARD OF 'mailcoachlaw05.CronTells'. -/
def cronTellsCard : Claim7 := { stood := { row := cronTellsRow, standIns := [], harness := (true, "1652728355561d41decd5b32bf80f367ca992637f211eb86b5627178ab970d12"), looks := true }, kinds := [], alts := [], laidByText := true, laidKinds := [.data, .data, .data, .data, .pinned, .pinned], laidTests := true, laidLooks := .later }
def CronTellsCardSaid : Prop := Claim7.holds Tryz.pinned (.plain (OpenSpec.ofChange cronTellsSpec)) cronTellsCard

/-- THE TIED CARD OF 'mailcoachlaw05.CronBack'. -/
def cronBackCard : Claim7 := { stood := { row := cronBackRow, standIns := [], harness := (true, "1652728355561d41decd5b32bf80f367ca992637f211eb86b5627178ab970d12"), looks := true }, kinds := [], alts := [], laidByText := true, laidKinds := [.data, .data, .data, .data, .pinned, .pinned], laidTests := true, laidLooks := .later }
def CronBackCardSaid : Prop := Claim7.holds Tryz.pinned (.plain (OpenSpec.ofChange cronBackSpec)) cronBackCard

/-- THE TIED CARD OF 'mailcoachlaw05.CronDays'. -/
def cronDaysCard : Claim7 := { stood := { row := cronDaysRow, standIns := [], harness := (true, "1652728355561d41decd5b32bf80f367ca992637f211eb86b5627178ab970d12"), looks := true }, kinds := [], alts := [], laidByText := true, laidKinds := [.data, .data, .data, .data, .pinned, .pinned], laidTests := true, laidLooks := .later }
def CronDaysCardSaid : Prop := Claim7.holds Tryz.pinned (.plain (OpenSpec.ofChange cronDaysSpec)) cronDaysCard

/-- THE TIED CARD OF 'mailcoachlaw05.CronNames'. -/
def cronNamesCard : Claim7 := { stood := { row := cronNamesRow, standIns := [], harness := (true, "1652728355561d41decd5b32bf80f367ca992637f211eb86b5627178ab970d12"), looks := true }, kinds := [], alts := [], laidByText := true, laidKinds := [.data, .data, .data, .data, .pinned, .pinned], laidTests := true, laidLooks := .later }
def CronNamesCardSaid : Prop := Claim7.holds Tryz.pinned (.plain (OpenSpec.ofChange cronNamesSpec)) cronNamesCard

/-- THE TIED CARD OF 'mailcoachlaw05.CronSteps'. -/
def cronStepsCard : Claim7 := { stood := { row := cronStepsRow, standIns := [], harness := (true, "1652728355561d41decd5b32bf80f367ca992637f211eb86b5627178ab970d12"), looks := true }, kinds := [], alts := [], laidByText := true, laidKinds := [.data, .data, .data, .data, .pinned, .pinned], laidTests := true, laidLooks := .later }
def CronStepsCardSaid : Prop := Claim7.holds Tryz.pinned (.plain (OpenSpec.ofChange cronStepsSpec)) cronStepsCard

/-- THE TIED CARD OF 'mailcoachlaw05.CronStars'. -/
def cronStarsCard : Claim7 := { stood := { row := cronStarsRow, standIns := [], harness := (true, "1652728355561d41decd5b32bf80f367ca992637f211eb86b5627178ab970d12"), looks := true }, kinds := [], alts := [], laidByText := true, laidKinds := [.data, .data, .data, .data, .pinned, .pinned], laidTests := true, laidLooks := .later }
def CronStarsCardSaid : Prop := Claim7.holds Tryz.pinned (.plain (OpenSpec.ofChange cronStarsSpec)) cronStarsCard

/-- THE SECOND FORM's CARD OF 'mailcoachlaw05.CronParses'. -/
def cronParsesUptoCard : Claim7 := { stood := { row := cronParsesUptoRow, standIns := [], harness := (true, "1652728355561d41decd5b32bf80f367ca992637f211eb86b5627178ab970d12"), looks := true }, kinds := [], alts := [], laidByText := true, laidKinds := [.data, .data, .data, .data, .pinned, .pinned], laidTests := true, laidLooks := .later }
def CronParsesUptoCardSaid : Prop := Claim7.holds Tryz.pinned (.plain (OpenSpec.upto cronParsesSpec)) cronParsesUptoCard

/-- THE SECOND FORM's CARD OF 'mailcoachlaw05.CronTells'. -/
def cronTellsUptoCard : Claim7 := { stood := { row := cronTellsUptoRow, standIns := [], harness := (true, "1652728355561d41decd5b32bf80f367ca992637f211eb86b5627178ab970d12"), looks := true }, kinds := [], alts := [], laidByText := true, laidKinds := [.data, .data, .data, .data, .pinned, .pinned], laidTests := true, laidLooks := .later }
def CronTellsUptoCardSaid : Prop := Claim7.holds Tryz.pinned (.plain (OpenSpec.upto cronTellsSpec)) cronTellsUptoCard

/-- THE SECOND FORM's CARD OF 'mailcoachlaw05.CronBack'. -/
def cronBackUptoCard : Claim7 := { stood := { row := cronBackUptoRow, standIns := [], harness := (true, "1652728355561d41decd5b32bf80f367ca992637f211eb86b5627178ab970d12"), looks := true }, kinds := [], alts := [], laidByText := true, laidKinds := [.data, .data, .data, .data, .pinned, .pinned], laidTests := true, laidLooks := .later }
def CronBackUptoCardSaid : Prop := Claim7.holds Tryz.pinned (.plain (OpenSpec.upto cronBackSpec)) cronBackUptoCard

/-- THE SECOND FORM's CARD OF 'mailcoachlaw05.CronDays'. -/
def cronDaysUptoCard : Claim7 := { stood := { row := cronDaysUptoRow, standIns := [], harness := (true, "1652728355561d41decd5b32bf80f367ca992637f211eb86b5627178ab970d12"), looks := true }, kinds := [], alts := [], laidByText := true, laidKinds := [.data, .data, .data, .data, .pinned, .pinned], laidTests := true, laidLooks := .later }
def CronDaysUptoCardSaid : Prop := Claim7.holds Tryz.pinned (.plain (OpenSpec.upto cronDaysSpec)) cronDaysUptoCard

/-- THE SECOND FORM's CARD OF 'mailcoachlaw05.CronNames'. -/
def cronNamesUptoCard : Claim7 := { stood := { row := cronNamesUptoRow, standIns := [], harness := (true, "1652728355561d41decd5b32bf80f367ca992637f211eb86b5627178ab970d12"), looks := true }, kinds := [], alts := [], laidByText := true, laidKinds := [.data, .data, .data, .data, .pinned, .pinned], laidTests := true, laidLooks := .later }
def CronNamesUptoCardSaid : Prop := Claim7.holds Tryz.pinned (.plain (OpenSpec.upto cronNamesSpec)) cronNamesUptoCard

/-- THE SECOND FORM's CARD OF 'mailcoachlaw05.CronSteps'. -/
def cronStepsUptoCard : Claim7 := { stood := { row := cronStepsUptoRow, standIns := [], harness := (true, "1652728355561d41decd5b32bf80f367ca992637f211eb86b5627178ab970d12"), looks := true }, kinds := [], alts := [], laidByText := true, laidKinds := [.data, .data, .data, .data, .pinned, .pinned], laidTests := true, laidLooks := .later }
def CronStepsUptoCardSaid : Prop := Claim7.holds Tryz.pinned (.plain (OpenSpec.upto cronStepsSpec)) cronStepsUptoCard

/-- THE SECOND FORM's CARD OF 'mailcoachlaw05.CronStars'. -/
def cronStarsUptoCard : Claim7 := { stood := { row := cronStarsUptoRow, standIns := [], harness := (true, "1652728355561d41decd5b32bf80f367ca992637f211eb86b5627178ab970d12"), looks := true }, kinds := [], alts := [], laidByText := true, laidKinds := [.data, .data, .data, .data, .pinned, .pinned], laidTests := true, laidLooks := .later }
def CronStarsUptoCardSaid : Prop := Claim7.holds Tryz.pinned (.plain (OpenSpec.upto cronStarsSpec)) cronStarsUptoCard
end Rows
end Go.Proofs.YtcmdjpgabkjbpaaGreatDoor
