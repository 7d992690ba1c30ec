/-
  DERIVED. GIVEN WITH THE SEED: THE CARDS: each row of YtdhhlcgmkkpldaaDoorRows.lean that lists a variable, with what it lists TIED to the program's text (the seventh form; the later family's looks); each row that meets fmt, with fmt's text TOLD by the authors' own Lean function (tested against real Go, not proved from fmt's source: count such statements apart). THE CARD IS WHAT COUNTS. Prove the row's statement (the work); the ties are given (YtdhhlcgmkkpldaaDoorTie.lean); close each card by the builder's one call (the guide's Derived/Test/ToyasCard.lean, 'card_holds'). Laid BY PROGRAM, IN A SANDBOX (cutbox-door.mjs). By AI agents, Wed Nov 11 2026. No macro, syntax, notation, axiom, sorry.
-/
import Derived.Test.YtdhhlcgmkkpldaaDoorRows
import GoSem.ClaimSeven
namespace Go.Proofs.YtdhhlcgmkkpldaaDoor
namespace Rows

/-- THE TIED CARD OF 'mailcoachlaw14.HeadTells'. -/
def headTellsCard : Claim7 := { stood := { row := headTellsRow, standIns := [], harness := (true, "96f355e79371d8aac6eb3c26183de199aab131d3120fafb0dbbfb8e10d8c635d"), looks := false }, kinds := [], alts := [], laidByText := true, laidKinds := [.data, .pinned], laidTests := true, laidLooks := .later }
def HeadTellsCardSaid : Prop := Claim7.holds Tryd.pinned (.plain (OpenSpec.ofChange headTellsSpec)) headTellsCard

/-- THE TIED CARD OF 'mailcoachlaw14.HeadAll'. -/
def headAllCard : Claim7 := { stood := { row := headAllRow, standIns := [], harness := (true, "96f355e79371d8aac6eb3c26183de199aab131d3120fafb0dbbfb8e10d8c635d"), looks := false }, kinds := [], alts := [], laidByText := true, laidKinds := [.data, .pinned], laidTests := true, laidLooks := .later }
def HeadAllCardSaid : Prop := Claim7.holds Tryd.pinned (.plain (OpenSpec.ofChange headAllSpec)) headAllCard

/-- THE TIED CARD OF 'mailcoachlaw14.HeadBack'. -/
def headBackCard : Claim7 := { stood := { row := headBackRow, standIns := [], harness := (true, "96f355e79371d8aac6eb3c26183de199aab131d3120fafb0dbbfb8e10d8c635d"), looks := false }, kinds := [], alts := [], laidByText := true, laidKinds := [.data, .pinned], laidTests := true, laidLooks := .later }
def HeadBackCardSaid : Prop := Claim7.holds Tryd.pinned (.plain (OpenSpec.ofChange headBackSpec)) headBackCard

/-- THE TIED CARD OF 'mailcoachlaw14.HeadLines'. -/
def headLinesCard : Claim7 := { stood := { row := headLinesRow, standIns := [], harness := (true, "96f355e79371d8aac6eb3c26183de199aab131d3120fafb0dbbfb8e10d8c635d"), looks := false }, kinds := [], alts := [], laidByText := true, laidKinds := [.data, .pinned], laidTests := true, laidLooks := .later }
def HeadLinesCardSaid : Prop := Claim7.holds Tryd.pinned (.plain (OpenSpec.ofChange headLinesSpec)) headLinesCard

/-- THE TIED CARD OF 'mailcoachlaw14.HeadCoded'. -/
def headCodedCard : Claim7 := { stood := { row := headCodedRow, standIns := [], harness := (true, "96f355e79371d8aac6eb3c26183de199aab131d3120fafb0dbbfb8e10d8c635d"), looks := false }, kinds := [], alts := [], laidByText := true, laidKinds := [.data, .pinned], laidTests := true, laidLooks := .later }
def HeadCodedCardSaid : Prop := Claim7.holds Tryd.pinned (.plain (OpenSpec.ofChange headCodedSpec)) headCodedCard

/-- THE SECOND FORM's CARD OF 'mailcoachlaw14.HeadTells'. -/
def headTellsUptoCard : Claim7 := { stood := { row := headTellsUptoRow, standIns := [], harness := (true, "96f355e79371d8aac6eb3c26183de199aab131d3120fafb0dbbfb8e10d8c635d"), looks := false }, kinds := [], alts := [], laidByText := true, laidKinds := [.data, .pinned], laidTests := true, laidLooks := .later }
def HeadTellsUptoCardSaid : Prop := Claim7.holds Tryd.pinned (.plain (OpenSpec.upto headTellsSpec)) headTellsUptoCard

/-- THE SECOND FORM's CARD OF 'mailcoachlaw14.HeadAll'. -/
def headAllUptoCard : Claim7 := { stood := { row := headAllUptoRow, standIns := [], harness := (true, "96f355e79371d8aac6eb3c26183de199aab131d3120fafb0dbbfb8e10d8c635d"), looks := false }, kinds := [], alts := [], laidByText := true, laidKinds := [.data, .pinned], laidTests := true, laidLooks := .later }
def HeadAllUptoCardSaid : Prop := Claim7.holds Tryd.pinned (.plain (OpenSpec.upto headAllSpec)) headAllUptoCard

/-- THE SECOND FORM's CARD OF 'mailcoachlaw14.HeadBack'. -/
def headBackUptoCard : Claim7 := { stood := { row := headBackUptoRow, standIns := [], harness := (true, "96f355e79371d8aac6eb3c26183de199aab131d3120fafb0dbbfb8e10d8c635d"), looks := false }, kinds := [], alts := [], laidByText := true, laidKinds := [.data, .pinned], laidTests := true, laidLooks := .later }
def HeadBackUptoCardSaid : Prop := Claim7.holds Tryd.pinned (.plain (OpenSpec.upto headBackSpec)) headBackUptoCard

/-- THE SECOND FORM's CARD OF 'mailcoachlaw14.HeadLines'. -/
def headLinesUptoCard : Claim7 := { stood := { row := headLinesUptoRow, standIns := [], harness := (true, "96f355e79371d8aac6eb3c26183de199aab131d3120fafb0dbbfb8e10d8c635d"), looks := false }, kinds := [], alts := [], laidByText := true, laidKinds := [.data, .pinned], laidTests := true, laidLooks := .later }
def HeadLinesUptoCardSaid : Prop := Claim7.holds Tryd.pinned (.plain (OpenSpec.upto headLinesSpec)) headLinesUptoCard

/-- THE SECOND FORM's CARD OF 'mailcoachlaw14.HeadCoded'. -/
def headCodedUptoCard : Claim7 := { stood := { row := headCodedUptoRow, standIns := [], harness := (true, "96f355e79371d8aac6eb3c26183de199aab131d3120fafb0dbbfb8e10d8c635d"), looks := false }, kinds := [], alts := [], laidByText := true, laidKinds := [.data, .pinned], laidTests := true, laidLooks := .later }
def HeadCodedUptoCardSaid : Prop := Claim7.holds Tryd.pinned (.plain (OpenSpec.upto headCodedSpec)) headCodedUptoCard
end Rows
end Go.Proofs.YtdhhlcgmkkpldaaDoor
