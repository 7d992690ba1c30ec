/-
  DERIVED. GIVEN WITH THE SEED: THE CARDS: each row of YtlmjopembcifiaaDoorRows.lean that lists a variable, with what it lists TIED to the program's text (the seventh form; the later family's looks); each row that meets fmt, with fmt's text TOLD by the authors' own Lean function (tested against real Go, not proved from fmt's source: count such statements apart). THE CARD IS WHAT COUNTS. Prove the row's statement (the work); the ties are given (YtlmjopembcifiaaDoorTie.lean); close each card by the builder's one call (the guide's Derived/Test/ToyasCard.lean, 'card_holds'). Laid BY PROGRAM, IN A SANDBOX (cutbox-door.mjs). By AI agents, Wed Nov 11 2026. No macro, syntax, notation, axiom, sorry.
-/
import Derived.Test.YtlmjopembcifiaaDoorRows
import GoSem.ClaimSeven
namespace Go.Proofs.YtlmjopembcifiaaDoor
namespace Rows

/-- THE TIED CARD OF 'mailcoachlaw02.StampTells'. -/
def stampTellsCard : Claim7 := { stood := { row := stampTellsRow, standIns := [], harness := (true, "94a73589a4a4932b140a2460d037cb372e3d2cdafb6cb5b9ff1e4dd49fffb3e6"), looks := true }, kinds := [], alts := [], laidByText := true, laidKinds := [.data, .data, .data, .data, .pinned], laidTests := true, laidLooks := .later }
def StampTellsCardSaid : Prop := Claim7.holds Tryd.pinned (.plain (OpenSpec.ofChange stampTellsSpec)) stampTellsCard

/-- THE TIED CARD OF 'mailcoachlaw02.StampWrites'. -/
def stampWritesCard : Claim7 := { stood := { row := stampWritesRow, standIns := [], harness := (true, "94a73589a4a4932b140a2460d037cb372e3d2cdafb6cb5b9ff1e4dd49fffb3e6"), looks := true }, kinds := [], alts := [], laidByText := true, laidKinds := [.data, .data, .data, .data, .pinned], laidTests := true, laidLooks := .later }
def StampWritesCardSaid : Prop := Claim7.holds Tryd.pinned (.plain (OpenSpec.ofChange stampWritesSpec)) stampWritesCard

/-- THE TIED CARD OF 'mailcoachlaw02.StampParses'. -/
def stampParsesCard : Claim7 := { stood := { row := stampParsesRow, standIns := [], harness := (true, "94a73589a4a4932b140a2460d037cb372e3d2cdafb6cb5b9ff1e4dd49fffb3e6"), looks := true }, kinds := [], alts := [], laidByText := true, laidKinds := [.data, .data, .data, .data, .pinned], laidTests := true, laidLooks := .later }
def StampParsesCardSaid : Prop := Claim7.holds Tryd.pinned (.plain (OpenSpec.ofChange stampParsesSpec)) stampParsesCard

/-- THE TIED CARD OF 'mailcoachlaw02.StampBack'. -/
def stampBackCard : Claim7 := { stood := { row := stampBackRow, standIns := [], harness := (true, "94a73589a4a4932b140a2460d037cb372e3d2cdafb6cb5b9ff1e4dd49fffb3e6"), looks := true }, kinds := [], alts := [], laidByText := true, laidKinds := [.data, .data, .data, .data, .pinned], laidTests := true, laidLooks := .later }
def StampBackCardSaid : Prop := Claim7.holds Tryd.pinned (.plain (OpenSpec.ofChange stampBackSpec)) stampBackCard

/-- THE TIED CARD OF 'mailcoachlaw02.StampRises'. -/
def stampRisesCard : Claim7 := { stood := { row := stampRisesRow, standIns := [], harness := (true, "94a73589a4a4932b140a2460d037cb372e3d2cdafb6cb5b9ff1e4dd49fffb3e6"), looks := true }, kinds := [], alts := [], laidByText := true, laidKinds := [.data, .data, .data, .data, .pinned], laidTests := true, laidLooks := .later }
def StampRisesCardSaid : Prop := Claim7.holds Tryd.pinned (.plain (OpenSpec.ofChange stampRisesSpec)) stampRisesCard

/-- THE TIED CARD OF 'mailcoachlaw02.StampZones'. -/
def stampZonesCard : Claim7 := { stood := { row := stampZonesRow, standIns := [], harness := (true, "94a73589a4a4932b140a2460d037cb372e3d2cdafb6cb5b9ff1e4dd49fffb3e6"), looks := true }, kinds := [], alts := [], laidByText := true, laidKinds := [.data, .data, .data, .data, .pinned], laidTests := true, laidLooks := .later }
def StampZonesCardSaid : Prop := Claim7.holds Tryd.pinned (.plain (OpenSpec.ofChange stampZonesSpec)) stampZonesCard

/-- THE TIED CARD OF 'mailcoachlaw02.StampMails'. -/
def stampMailsCard : Claim7 := { stood := { row := stampMailsRow, standIns := [], harness := (true, "94a73589a4a4932b140a2460d037cb372e3d2cdafb6cb5b9ff1e4dd49fffb3e6"), looks := true }, kinds := [], alts := [], laidByText := true, laidKinds := [.data, .data, .data, .data, .pinned], laidTests := true, laidLooks := .later }
def StampMailsCardSaid : Prop := Claim7.holds Tryd.pinned (.plain (OpenSpec.ofChange stampMailsSpec)) stampMailsCard

/-- THE TIED CARD OF 'mailcoachlaw02.StampDays'. -/
def stampDaysCard : Claim7 := { stood := { row := stampDaysRow, standIns := [], harness := (true, "94a73589a4a4932b140a2460d037cb372e3d2cdafb6cb5b9ff1e4dd49fffb3e6"), looks := true }, kinds := [], alts := [], laidByText := true, laidKinds := [.data, .data, .data, .data, .pinned], laidTests := true, laidLooks := .later }
def StampDaysCardSaid : Prop := Claim7.holds Tryd.pinned (.plain (OpenSpec.ofChange stampDaysSpec)) stampDaysCard

/-- THE SECOND FORM's CARD OF 'mailcoachlaw02.StampTells'. -/
def stampTellsUptoCard : Claim7 := { stood := { row := stampTellsUptoRow, standIns := [], harness := (true, "94a73589a4a4932b140a2460d037cb372e3d2cdafb6cb5b9ff1e4dd49fffb3e6"), looks := true }, kinds := [], alts := [], laidByText := true, laidKinds := [.data, .data, .data, .data, .pinned], laidTests := true, laidLooks := .later }
def StampTellsUptoCardSaid : Prop := Claim7.holds Tryd.pinned (.plain (OpenSpec.upto stampTellsSpec)) stampTellsUptoCard

/-- THE SECOND FORM's CARD OF 'mailcoachlaw02.StampWrites'. -/
def stampWritesUptoCard : Claim7 := { stood := { row := stampWritesUptoRow, standIns := [], harness := (true, "94a73589a4a4932b140a2460d037cb372e3d2cdafb6cb5b9ff1e4dd49fffb3e6"), looks := true }, kinds := [], alts := [], laidByText := true, laidKinds := [.data, .data, .data, .data, .pinned], laidTests := true, laidLooks := .later }
def StampWritesUptoCardSaid : Prop := Claim7.holds Tryd.pinned (.plain (OpenSpec.upto stampWritesSpec)) stampWritesUptoCard

/-- THE SECOND FORM's CARD OF 'mailcoachlaw02.StampParses'. -/
def stampParsesUptoCard : Claim7 := { stood := { row := stampParsesUptoRow, standIns := [], harness := (true, "94a73589a4a4932b140a2460d037cb372e3d2cdafb6cb5b9ff1e4dd49fffb3e6"), looks := true }, kinds := [], alts := [], laidByText := true, laidKinds := [.data, .data, .data, .data, .pinned], laidTests := true, laidLooks := .later }
def StampParsesUptoCardSaid : Prop := Claim7.holds Tryd.pinned (.plain (OpenSpec.upto stampParsesSpec)) stampParsesUptoCard

/-- THE SECOND FORM's CARD OF 'mailcoachlaw02.StampBack'. -/
def stampBackUptoCard : Claim7 := { stood := { row := stampBackUptoRow, standIns := [], harness := (true, "94a73589a4a4932b140a2460d037cb372e3d2cdafb6cb5b9ff1e4dd49fffb3e6"), looks := true }, kinds := [], alts := [], laidByText := true, laidKinds := [.data, .data, .data, .data, .pinned], laidTests := true, laidLooks := .later }
def StampBackUptoCardSaid : Prop := Claim7.holds Tryd.pinned (.plain (OpenSpec.upto stampBackSpec)) stampBackUptoCard

/-- THE SECOND FORM's CARD OF 'mailcoachlaw02.StampRises'. -/
def stampRisesUptoCard : Claim7 := { stood := { row := stampRisesUptoRow, standIns := [], harness := (true, "94a73589a4a4932b140a2460d037cb372e3d2cdafb6cb5b9ff1e4dd49fffb3e6"), looks := true }, kinds := [], alts := [], laidByText := true, laidKinds := [.data, .data, .data, .data, .pinned], laidTests := true, laidLooks := .later }
def StampRisesUptoCardSaid : Prop := Claim7.holds Tryd.pinned (.plain (OpenSpec.upto stampRisesSpec)) stampRisesUptoCard

/-- THE SECOND FORM's CARD OF 'mailcoachlaw02.StampZones'. -/
def stampZonesUptoCard : Claim7 := { stood := { row := stampZonesUptoRow, standIns := [], harness := (true, "94a73589a4a4932b140a2460d037cb372e3d2cdafb6cb5b9ff1e4dd49fffb3e6"), looks := true }, kinds := [], alts := [], laidByText := true, laidKinds := [.data, .data, .data, .data, .pinned], laidTests := true, laidLooks := .later }
def StampZonesUptoCardSaid : Prop := Claim7.holds Tryd.pinned (.plain (OpenSpec.upto stampZonesSpec)) stampZonesUptoCard

/-- THE SECOND FORM's CARD OF 'mailcoachlaw02.StampMails'. -/
def stampMailsUptoCard : Claim7 := { stood := { row := stampMailsUptoRow, standIns := [], harness := (true, "94a73589a4a4932b140a2460d037cb372e3d2cdafb6cb5b9ff1e4dd49fffb3e6"), looks := true }, kinds := [], alts := [], laidByText := true, laidKinds := [.data, .data, .data, .data, .pinned], laidTests := true, laidLooks := .later }
def StampMailsUptoCardSaid : Prop := Claim7.holds Tryd.pinned (.plain (OpenSpec.upto stampMailsSpec)) stampMailsUptoCard

/-- THE SECOND FORM's CARD OF 'mailcoachlaw02.StampDays'. -/
def stampDaysUptoCard : Claim7 := { stood := { row := stampDaysUptoRow, standIns := [], harness := (true, "94a73589a4a4932b140a2460d037cb372e3d2cdafb6cb5b9ff1e4dd49fffb3e6"), looks := true }, kinds := [], alts := [], laidByText := true, laidKinds := [.data, .data, .data, .data, .pinned], laidTests := true, laidLooks := .later }
def StampDaysUptoCardSaid : Prop := Claim7.holds Tryd.pinned (.plain (OpenSpec.upto stampDaysSpec)) stampDaysUptoCard
end Rows
end Go.Proofs.YtlmjopembcifiaaDoor
