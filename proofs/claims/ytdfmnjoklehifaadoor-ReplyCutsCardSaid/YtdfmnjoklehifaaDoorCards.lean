/-
  DERIVED. GIVEN WITH THE SEED: THE CARDS: each row of YtdfmnjoklehifaaDoorRows.lean that lists a variable, with what it lists TIED to the program's text (the seventh form; the later family's looks); each row that meets fmt, with fmt's text TOLD by the authors' own Lean function (tested against real Go, not proved from fmt's source: count such statements apart). THE CARD IS WHAT COUNTS. Prove the row's statement (the work); the ties are given (YtdfmnjoklehifaaDoorTie.lean); close each card by the builder's one call (the guide's Derived/Test/ToyasCard.lean, 'card_holds'). Laid BY PROGRAM, IN A SANDBOX (cutbox-door.mjs). By AI agents, Wed Nov 11 2026. No macro, syntax, notation, axiom, sorry.
-/
import Derived.Test.YtdfmnjoklehifaaDoorRows
import GoSem.ClaimSeven
namespace Go.Proofs.YtdfmnjoklehifaaDoor
namespace Rows

/-- THE TIED CARD OF 'mailcoachlaw17.ReplyWrites'. -/
def replyWritesCard : Claim7 := { stood := { row := replyWritesRow, standIns := [], harness := (true, "5beb16ff4fedb861f2f5ffa064b5cae916e2dfc6bc5da2b0f53f84c997d2e4c0"), looks := true }, kinds := [], alts := [], laidByText := true, laidKinds := [.data, .data, .data, .data, .sentinel, .sentinel, .pinned], laidTests := true, laidLooks := .later }
def ReplyWritesCardSaid : Prop := Claim7.holds Tryd.pinned (.plain (OpenSpec.ofChange replyWritesSpec)) replyWritesCard

/-- THE TIED CARD OF 'mailcoachlaw17.ReplyCuts'. -/
def replyCutsCard : Claim7 := { stood := { row := replyCutsRow, standIns := [], harness := (true, "5beb16ff4fedb861f2f5ffa064b5cae916e2dfc6bc5da2b0f53f84c997d2e4c0"), looks := true }, kinds := [], alts := [], laidByText := true, laidKinds := [.data, .data, .data, .data, .sentinel, .sentinel, .pinned], laidTests := true, laidLooks := .later }
def ReplyCutsCardSaid : Prop := Claim7.holds Tryd.pinned (.plain (OpenSpec.ofChange replyCutsSpec)) replyCutsCard

/-- THE TIED CARD OF 'mailcoachlaw17.ReplyBack'. -/
def replyBackCard : Claim7 := { stood := { row := replyBackRow, standIns := [], harness := (true, "5beb16ff4fedb861f2f5ffa064b5cae916e2dfc6bc5da2b0f53f84c997d2e4c0"), looks := true }, kinds := [], alts := [], laidByText := true, laidKinds := [.data, .data, .data, .data, .sentinel, .sentinel, .pinned], laidTests := true, laidLooks := .later }
def ReplyBackCardSaid : Prop := Claim7.holds Tryd.pinned (.plain (OpenSpec.ofChange replyBackSpec)) replyBackCard

/-- THE TIED CARD OF 'mailcoachlaw17.ReplyBad'. -/
def replyBadCard : Claim7 := { stood := { row := replyBadRow, standIns := [], harness := (true, "5beb16ff4fedb861f2f5ffa064b5cae916e2dfc6bc5da2b0f53f84c997d2e4c0"), looks := true }, kinds := [], alts := [], laidByText := true, laidKinds := [.data, .data, .data, .data, .sentinel, .sentinel, .pinned], laidTests := true, laidLooks := .later }
def ReplyBadCardSaid : Prop := Claim7.holds Tryd.pinned (.plain (OpenSpec.ofChange replyBadSpec)) replyBadCard

/-- THE TIED CARD OF 'mailcoachlaw17.ReplyMay'. -/
def replyMayCard : Claim7 := { stood := { row := replyMayRow, standIns := [], harness := (true, "5beb16ff4fedb861f2f5ffa064b5cae916e2dfc6bc5da2b0f53f84c997d2e4c0"), looks := true }, kinds := [], alts := [], laidByText := true, laidKinds := [.data, .data, .data, .data, .sentinel, .sentinel, .pinned], laidTests := true, laidLooks := .later }
def ReplyMayCardSaid : Prop := Claim7.holds Tryd.pinned (.plain (OpenSpec.ofChange replyMaySpec)) replyMayCard

/-- THE SECOND FORM's CARD OF 'mailcoachlaw17.ReplyWrites'. -/
def replyWritesUptoCard : Claim7 := { stood := { row := replyWritesUptoRow, standIns := [], harness := (true, "5beb16ff4fedb861f2f5ffa064b5cae916e2dfc6bc5da2b0f53f84c997d2e4c0"), looks := true }, kinds := [], alts := [], laidByText := true, laidKinds := [.data, .data, .data, .data, .sentinel, .sentinel, .pinned], laidTests := true, laidLooks := .later }
def ReplyWritesUptoCardSaid : Prop := Claim7.holds Tryd.pinned (.plain (OpenSpec.upto replyWritesSpec)) replyWritesUptoCard

/-- THE SECOND FORM's CARD OF 'mailcoachlaw17.ReplyCuts'. -/
def replyCutsUptoCard : Claim7 := { stood := { row := replyCutsUptoRow, standIns := [], harness := (true, "5beb16ff4fedb861f2f5ffa064b5cae916e2dfc6bc5da2b0f53f84c997d2e4c0"), looks := true }, kinds := [], alts := [], laidByText := true, laidKinds := [.data, .data, .data, .data, .sentinel, .sentinel, .pinned], laidTests := true, laidLooks := .later }
def ReplyCutsUptoCardSaid : Prop := Claim7.holds Tryd.pinned (.plain (OpenSpec.upto replyCutsSpec)) replyCutsUptoCard

/-- THE SECOND FORM's CARD OF 'mailcoachlaw17.ReplyBack'. -/
def replyBackUptoCard : Claim7 := { stood := { row := replyBackUptoRow, standIns := [], harness := (true, "5beb16ff4fedb861f2f5ffa064b5cae916e2dfc6bc5da2b0f53f84c997d2e4c0"), looks := true }, kinds := [], alts := [], laidByText := true, laidKinds := [.data, .data, .data, .data, .sentinel, .sentinel, .pinned], laidTests := true, laidLooks := .later }
def ReplyBackUptoCardSaid : Prop := Claim7.holds Tryd.pinned (.plain (OpenSpec.upto replyBackSpec)) replyBackUptoCard

/-- THE SECOND FORM's CARD OF 'mailcoachlaw17.ReplyBad'. -/
def replyBadUptoCard : Claim7 := { stood := { row := replyBadUptoRow, standIns := [], harness := (true, "5beb16ff4fedb861f2f5ffa064b5cae916e2dfc6bc5da2b0f53f84c997d2e4c0"), looks := true }, kinds := [], alts := [], laidByText := true, laidKinds := [.data, .data, .data, .data, .sentinel, .sentinel, .pinned], laidTests := true, laidLooks := .later }
def ReplyBadUptoCardSaid : Prop := Claim7.holds Tryd.pinned (.plain (OpenSpec.upto replyBadSpec)) replyBadUptoCard

/-- THE SECOND FORM's CARD OF 'mailcoachlaw17.ReplyMay'. -/
def replyMayUptoCard : Claim7 := { stood := { row := replyMayUptoRow, standIns := [], harness := (true, "5beb16ff4fedb861f2f5ffa064b5cae916e2dfc6bc5da2b0f53f84c997d2e4c0"), looks := true }, kinds := [], alts := [], laidByText := true, laidKinds := [.data, .data, .data, .data, .sentinel, .sentinel, .pinned], laidTests := true, laidLooks := .later }
def ReplyMayUptoCardSaid : Prop := Claim7.holds Tryd.pinned (.plain (OpenSpec.upto replyMaySpec)) replyMayUptoCard
end Rows
end Go.Proofs.YtdfmnjoklehifaaDoor
