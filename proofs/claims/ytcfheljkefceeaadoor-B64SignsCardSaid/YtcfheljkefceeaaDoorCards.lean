/-
  DERIVED. GIVEN WITH THE SEED: THE CARDS: each row of YtcfheljkefceeaaDoorRows.lean that lists a variable, with what it lists TIED to the program's text (the seventh form; the later family's looks); each row that meets fmt, with fmt's text TOLD by the authors' own Lean function (tested against real Go, not proved from fmt's source: count such statements apart). THE CARD IS WHAT COUNTS. Prove the row's statement (the work); the ties are given (YtcfheljkefceeaaDoorTie.lean); close each card by the builder's one call (the guide's Derived/Test/ToyasCard.lean, 'card_holds'). Laid BY PROGRAM, IN A SANDBOX (cutbox-door.mjs). By AI agents, Wed Nov 11 2026. No macro, syntax, notation, axiom, sorry.
-/
import Derived.Test.YtcfheljkefceeaaDoorRows
import GoSem.ClaimSeven
namespace Go.Proofs.YtcfheljkefceeaaDoor
namespace Rows

/-- THE TIED CARD OF 'mailcoachlaw13.B64Tells'. -/
def b64TellsCard : Claim7 := { stood := { row := b64TellsRow, standIns := [], harness := (true, "8c0a20a6cda4765d8e4dfa0ca6088afcf590aa9bb3d2dc01a4d6c503e044da0b"), looks := false }, kinds := [], alts := [], laidByText := true, laidKinds := [.data, .pinned], laidTests := true, laidLooks := .later }
def B64TellsCardSaid : Prop := Claim7.holds Tryd.pinned (.plain (OpenSpec.ofChange b64TellsSpec)) b64TellsCard

/-- THE TIED CARD OF 'mailcoachlaw13.B64Reads'. -/
def b64ReadsCard : Claim7 := { stood := { row := b64ReadsRow, standIns := [], harness := (true, "8c0a20a6cda4765d8e4dfa0ca6088afcf590aa9bb3d2dc01a4d6c503e044da0b"), looks := false }, kinds := [], alts := [], laidByText := true, laidKinds := [.data, .pinned], laidTests := true, laidLooks := .later }
def B64ReadsCardSaid : Prop := Claim7.holds Tryd.pinned (.plain (OpenSpec.ofChange b64ReadsSpec)) b64ReadsCard

/-- THE TIED CARD OF 'mailcoachlaw13.B64Back'. -/
def b64BackCard : Claim7 := { stood := { row := b64BackRow, standIns := [], harness := (true, "8c0a20a6cda4765d8e4dfa0ca6088afcf590aa9bb3d2dc01a4d6c503e044da0b"), looks := false }, kinds := [], alts := [], laidByText := true, laidKinds := [.data, .pinned], laidTests := true, laidLooks := .later }
def B64BackCardSaid : Prop := Claim7.holds Tryd.pinned (.plain (OpenSpec.ofChange b64BackSpec)) b64BackCard

/-- THE TIED CARD OF 'mailcoachlaw13.B64Longs'. -/
def b64LongsCard : Claim7 := { stood := { row := b64LongsRow, standIns := [], harness := (true, "8c0a20a6cda4765d8e4dfa0ca6088afcf590aa9bb3d2dc01a4d6c503e044da0b"), looks := false }, kinds := [], alts := [], laidByText := true, laidKinds := [.data, .pinned], laidTests := true, laidLooks := .later }
def B64LongsCardSaid : Prop := Claim7.holds Tryd.pinned (.plain (OpenSpec.ofChange b64LongsSpec)) b64LongsCard

/-- THE TIED CARD OF 'mailcoachlaw13.B64Signs'. -/
def b64SignsCard : Claim7 := { stood := { row := b64SignsRow, standIns := [], harness := (true, "8c0a20a6cda4765d8e4dfa0ca6088afcf590aa9bb3d2dc01a4d6c503e044da0b"), looks := false }, kinds := [], alts := [], laidByText := true, laidKinds := [.data, .pinned], laidTests := true, laidLooks := .later }
def B64SignsCardSaid : Prop := Claim7.holds Tryd.pinned (.plain (OpenSpec.ofChange b64SignsSpec)) b64SignsCard

/-- THE SECOND FORM's CARD OF 'mailcoachlaw13.B64Tells'. -/
def b64TellsUptoCard : Claim7 := { stood := { row := b64TellsUptoRow, standIns := [], harness := (true, "8c0a20a6cda4765d8e4dfa0ca6088afcf590aa9bb3d2dc01a4d6c503e044da0b"), looks := false }, kinds := [], alts := [], laidByText := true, laidKinds := [.data, .pinned], laidTests := true, laidLooks := .later }
def B64TellsUptoCardSaid : Prop := Claim7.holds Tryd.pinned (.plain (OpenSpec.upto b64TellsSpec)) b64TellsUptoCard

/-- THE SECOND FORM's CARD OF 'mailcoachlaw13.B64Reads'. -/
def b64ReadsUptoCard : Claim7 := { stood := { row := b64ReadsUptoRow, standIns := [], harness := (true, "8c0a20a6cda4765d8e4dfa0ca6088afcf590aa9bb3d2dc01a4d6c503e044da0b"), looks := false }, kinds := [], alts := [], laidByText := true, laidKinds := [.data, .pinned], laidTests := true, laidLooks := .later }
def B64ReadsUptoCardSaid : Prop := Claim7.holds Tryd.pinned (.plain (OpenSpec.upto b64ReadsSpec)) b64ReadsUptoCard

/-- THE SECOND FORM's CARD OF 'mailcoachlaw13.B64Back'. -/
def b64BackUptoCard : Claim7 := { stood := { row := b64BackUptoRow, standIns := [], harness := (true, "8c0a20a6cda4765d8e4dfa0ca6088afcf590aa9bb3d2dc01a4d6c503e044da0b"), looks := false }, kinds := [], alts := [], laidByText := true, laidKinds := [.data, .pinned], laidTests := true, laidLooks := .later }
def B64BackUptoCardSaid : Prop := Claim7.holds Tryd.pinned (.plain (OpenSpec.upto b64BackSpec)) b64BackUptoCard

/-- THE SECOND FORM's CARD OF 'mailcoachlaw13.B64Longs'. -/
def b64LongsUptoCard : Claim7 := { stood := { row := b64LongsUptoRow, standIns := [], harness := (true, "8c0a20a6cda4765d8e4dfa0ca6088afcf590aa9bb3d2dc01a4d6c503e044da0b"), looks := false }, kinds := [], alts := [], laidByText := true, laidKinds := [.data, .pinned], laidTests := true, laidLooks := .later }
def B64LongsUptoCardSaid : Prop := Claim7.holds Tryd.pinned (.plain (OpenSpec.upto b64LongsSpec)) b64LongsUptoCard

/-- THE SECOND FORM's CARD OF 'mailcoachlaw13.B64Signs'. -/
def b64SignsUptoCard : Claim7 := { stood := { row := b64SignsUptoRow, standIns := [], harness := (true, "8c0a20a6cda4765d8e4dfa0ca6088afcf590aa9bb3d2dc01a4d6c503e044da0b"), looks := false }, kinds := [], alts := [], laidByText := true, laidKinds := [.data, .pinned], laidTests := true, laidLooks := .later }
def B64SignsUptoCardSaid : Prop := Claim7.holds Tryd.pinned (.plain (OpenSpec.upto b64SignsSpec)) b64SignsUptoCard
end Rows
end Go.Proofs.YtcfheljkefceeaaDoor
