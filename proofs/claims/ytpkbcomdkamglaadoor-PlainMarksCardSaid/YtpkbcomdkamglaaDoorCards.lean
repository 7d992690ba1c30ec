/-
  DERIVED. GIVEN WITH THE SEED: THE CARDS: each row of YtpkbcomdkamglaaDoorRows.lean that lists a variable, with what it lists TIED to the program's text (the seventh form; the later family's looks); each row that meets fmt, with fmt's text TOLD by the authors' own Lean function (tested against real Go, not proved from fmt's source: count such statements apart). THE CARD IS WHAT COUNTS. Prove the row's statement (the work); the ties are given (YtpkbcomdkamglaaDoorTie.lean); close each card by the builder's one call (the guide's Derived/Test/ToyasCard.lean, 'card_holds'). Laid BY PROGRAM, IN A SANDBOX (cutbox-door.mjs). By AI agents, Wed Nov 11 2026. No macro, syntax, notation, axiom, sorry.
-/
import Derived.Test.YtpkbcomdkamglaaDoorRows
import GoSem.ClaimSeven
namespace Go.Proofs.YtpkbcomdkamglaaDoor
namespace Rows

/-- THE TIED CARD OF 'mailcoachlaw11.PlainSame'. -/
def plainSameCard : Claim7 := { stood := { row := plainSameRow, standIns := [], harness := (true, "c76c521baf3c54684a59b29e594c9596a8200278ee5a55ad48d319824819f097"), looks := true }, kinds := [], alts := [], laidByText := true, laidKinds := [.data, .data, .data, .data, .sentinel, .sentinel, .pinned, .pinned], laidTests := true, laidLooks := .later }
def PlainSameCardSaid : Prop := Claim7.holds Tryd.pinned (.plain (OpenSpec.ofChange plainSameSpec)) plainSameCard

/-- THE TIED CARD OF 'mailcoachlaw11.PlainLines'. -/
def plainLinesCard : Claim7 := { stood := { row := plainLinesRow, standIns := [], harness := (true, "c76c521baf3c54684a59b29e594c9596a8200278ee5a55ad48d319824819f097"), looks := true }, kinds := [], alts := [], laidByText := true, laidKinds := [.data, .data, .data, .data, .sentinel, .sentinel, .pinned, .pinned], laidTests := true, laidLooks := .later }
def PlainLinesCardSaid : Prop := Claim7.holds Tryd.pinned (.plain (OpenSpec.ofChange plainLinesSpec)) plainLinesCard

/-- THE TIED CARD OF 'mailcoachlaw11.PlainMarks'. -/
def plainMarksCard : Claim7 := { stood := { row := plainMarksRow, standIns := [], harness := (true, "c76c521baf3c54684a59b29e594c9596a8200278ee5a55ad48d319824819f097"), looks := true }, kinds := [], alts := [], laidByText := true, laidKinds := [.data, .data, .data, .data, .sentinel, .sentinel, .pinned, .pinned], laidTests := true, laidLooks := .later }
def PlainMarksCardSaid : Prop := Claim7.holds Tryd.pinned (.plain (OpenSpec.ofChange plainMarksSpec)) plainMarksCard

/-- THE SECOND FORM's CARD OF 'mailcoachlaw11.PlainSame'. -/
def plainSameUptoCard : Claim7 := { stood := { row := plainSameUptoRow, standIns := [], harness := (true, "c76c521baf3c54684a59b29e594c9596a8200278ee5a55ad48d319824819f097"), looks := true }, kinds := [], alts := [], laidByText := true, laidKinds := [.data, .data, .data, .data, .sentinel, .sentinel, .pinned, .pinned], laidTests := true, laidLooks := .later }
def PlainSameUptoCardSaid : Prop := Claim7.holds Tryd.pinned (.plain (OpenSpec.upto plainSameSpec)) plainSameUptoCard

/-- THE SECOND FORM's CARD OF 'mailcoachlaw11.PlainLines'. -/
def plainLinesUptoCard : Claim7 := { stood := { row := plainLinesUptoRow, standIns := [], harness := (true, "c76c521baf3c54684a59b29e594c9596a8200278ee5a55ad48d319824819f097"), looks := true }, kinds := [], alts := [], laidByText := true, laidKinds := [.data, .data, .data, .data, .sentinel, .sentinel, .pinned, .pinned], laidTests := true, laidLooks := .later }
def PlainLinesUptoCardSaid : Prop := Claim7.holds Tryd.pinned (.plain (OpenSpec.upto plainLinesSpec)) plainLinesUptoCard

/-- THE SECOND FORM's CARD OF 'mailcoachlaw11.PlainMarks'. -/
def plainMarksUptoCard : Claim7 := { stood := { row := plainMarksUptoRow, standIns := [], harness := (true, "c76c521baf3c54684a59b29e594c9596a8200278ee5a55ad48d319824819f097"), looks := true }, kinds := [], alts := [], laidByText := true, laidKinds := [.data, .data, .data, .data, .sentinel, .sentinel, .pinned, .pinned], laidTests := true, laidLooks := .later }
def PlainMarksUptoCardSaid : Prop := Claim7.holds Tryd.pinned (.plain (OpenSpec.upto plainMarksSpec)) plainMarksUptoCard
end Rows
end Go.Proofs.YtpkbcomdkamglaaDoor
