/-
  DERIVED. GIVEN WITH THE SEED: THE CARDS: each row of YtjlpkgipdkjfhaaGreatDoorRows.lean that lists a variable, with what it lists TIED to the program's text (the seventh form; the later family's looks); each row that meets fmt, with fmt's text TOLD by the authors' own Lean function (tested against real Go, not proved from fmt's source: count such statements apart). THE CARD IS WHAT COUNTS. Prove the row's statement (the work); the ties are given (YtjlpkgipdkjfhaaGreatDoorTie.lean); close each card by the builder's one call (the guide's Derived/Test/ToyasCard.lean, 'card_holds'). Laid BY PROGRAM, IN A SANDBOX (cutbox-door.mjs). By AI agents, Wed Nov 11 2026. No macro, syntax, notation, axiom, sorry.
-/
import Derived.Test.YtjlpkgipdkjfhaaGreatDoorRows
import GoSem.ClaimSeven
namespace Go.Proofs.YtjlpkgipdkjfhaaGreatDoor
namespace Rows

/-- THE TIED CARD OF 'mailcoachlaw16.DigestBuilds'. -/
def digestBuildsCard : Claim7 := { stood := { row := digestBuildsRow, standIns := [], harness := (true, "6879b6cf826ee299c990f4f3dd70d6e220efe9cb25deab1c74edb1d60827265e"), looks := true }, kinds := [], alts := [], laidByText := true, laidKinds := [.data, .data, .data, .data, .sentinel, .sentinel, .pinned, .pinned], laidTests := true, laidLooks := .later }
def DigestBuildsCardSaid : Prop := Claim7.holds Tryz.pinned (.plain (OpenSpec.ofChange digestBuildsSpec)) digestBuildsCard

/-- THE TIED CARD OF 'mailcoachlaw16.DigestIds'. -/
def digestIdsCard : Claim7 := { stood := { row := digestIdsRow, standIns := [], harness := (true, "6879b6cf826ee299c990f4f3dd70d6e220efe9cb25deab1c74edb1d60827265e"), looks := true }, kinds := [], alts := [], laidByText := true, laidKinds := [.data, .data, .data, .data, .sentinel, .sentinel, .pinned, .pinned], laidTests := true, laidLooks := .later }
def DigestIdsCardSaid : Prop := Claim7.holds Tryz.pinned (.plain (OpenSpec.ofChange digestIdsSpec)) digestIdsCard

/-- THE TIED CARD OF 'mailcoachlaw16.DigestOnly'. -/
def digestOnlyCard : Claim7 := { stood := { row := digestOnlyRow, standIns := [], harness := (true, "6879b6cf826ee299c990f4f3dd70d6e220efe9cb25deab1c74edb1d60827265e"), looks := true }, kinds := [], alts := [], laidByText := true, laidKinds := [.data, .data, .data, .data, .sentinel, .sentinel, .pinned, .pinned], laidTests := true, laidLooks := .later }
def DigestOnlyCardSaid : Prop := Claim7.holds Tryz.pinned (.plain (OpenSpec.ofChange digestOnlySpec)) digestOnlyCard

/-- THE TIED CARD OF 'mailcoachlaw16.DigestReads'. -/
def digestReadsCard : Claim7 := { stood := { row := digestReadsRow, standIns := [], harness := (true, "6879b6cf826ee299c990f4f3dd70d6e220efe9cb25deab1c74edb1d60827265e"), looks := true }, kinds := [], alts := [], laidByText := true, laidKinds := [.data, .data, .data, .data, .sentinel, .sentinel, .pinned, .pinned], laidTests := true, laidLooks := .later }
def DigestReadsCardSaid : Prop := Claim7.holds Tryz.pinned (.plain (OpenSpec.ofChange digestReadsSpec)) digestReadsCard

/-- THE TIED CARD OF 'mailcoachlaw16.DigestSame'. -/
def digestSameCard : Claim7 := { stood := { row := digestSameRow, standIns := [], harness := (true, "6879b6cf826ee299c990f4f3dd70d6e220efe9cb25deab1c74edb1d60827265e"), looks := true }, kinds := [], alts := [], laidByText := true, laidKinds := [.data, .data, .data, .data, .sentinel, .sentinel, .pinned, .pinned], laidTests := true, laidLooks := .later }
def DigestSameCardSaid : Prop := Claim7.holds Tryz.pinned (.plain (OpenSpec.ofChange digestSameSpec)) digestSameCard

/-- THE TIED CARD OF 'mailcoachlaw16.DigestMarks'. -/
def digestMarksCard : Claim7 := { stood := { row := digestMarksRow, standIns := [], harness := (true, "6879b6cf826ee299c990f4f3dd70d6e220efe9cb25deab1c74edb1d60827265e"), looks := true }, kinds := [], alts := [], laidByText := true, laidKinds := [.data, .data, .data, .data, .sentinel, .sentinel, .pinned, .pinned], laidTests := true, laidLooks := .later }
def DigestMarksCardSaid : Prop := Claim7.holds Tryz.pinned (.plain (OpenSpec.ofChange digestMarksSpec)) digestMarksCard

/-- THE SECOND FORM's CARD OF 'mailcoachlaw16.DigestBuilds'. -/
def digestBuildsUptoCard : Claim7 := { stood := { row := digestBuildsUptoRow, standIns := [], harness := (true, "6879b6cf826ee299c990f4f3dd70d6e220efe9cb25deab1c74edb1d60827265e"), looks := true }, kinds := [], alts := [], laidByText := true, laidKinds := [.data, .data, .data, .data, .sentinel, .sentinel, .pinned, .pinned], laidTests := true, laidLooks := .later }
def DigestBuildsUptoCardSaid : Prop := Claim7.holds Tryz.pinned (.plain (OpenSpec.upto digestBuildsSpec)) digestBuildsUptoCard

/-- THE SECOND FORM's CARD OF 'mailcoachlaw16.DigestIds'. -/
def digestIdsUptoCard : Claim7 := { stood := { row := digestIdsUptoRow, standIns := [], harness := (true, "6879b6cf826ee299c990f4f3dd70d6e220efe9cb25deab1c74edb1d60827265e"), looks := true }, kinds := [], alts := [], laidByText := true, laidKinds := [.data, .data, .data, .data, .sentinel, .sentinel, .pinned, .pinned], laidTests := true, laidLooks := .later }
def DigestIdsUptoCardSaid : Prop := Claim7.holds Tryz.pinned (.plain (OpenSpec.upto digestIdsSpec)) digestIdsUptoCard

/-- THE SECOND FORM's CARD OF 'mailcoachlaw16.DigestOnly'. -/
def digestOnlyUptoCard : Claim7 := { stood := { row := digestOnlyUptoRow, standIns := [], harness := (true, "6879b6cf826ee299c990f4f3dd70d6e220efe9cb25deab1c74edb1d60827265e"), looks := true }, kinds := [], alts := [], laidByText := true, laidKinds := [.data, .data, .data, .data, .sentinel, .sentinel, .pinned, .pinned], laidTests := true, laidLooks := .later }
def DigestOnlyUptoCardSaid : Prop := Claim7.holds Tryz.pinned (.plain (OpenSpec.upto digestOnlySpec)) digestOnlyUptoCard

/-- THE SECOND FORM's CARD OF 'mailcoachlaw16.DigestReads'. -/
def digestReadsUptoCard : Claim7 := { stood := { row := digestReadsUptoRow, standIns := [], harness := (true, "6879b6cf826ee299c990f4f3dd70d6e220efe9cb25deab1c74edb1d60827265e"), looks := true }, kinds := [], alts := [], laidByText := true, laidKinds := [.data, .data, .data, .data, .sentinel, .sentinel, .pinned, .pinned], laidTests := true, laidLooks := .later }
def DigestReadsUptoCardSaid : Prop := Claim7.holds Tryz.pinned (.plain (OpenSpec.upto digestReadsSpec)) digestReadsUptoCard

/-- THE SECOND FORM's CARD OF 'mailcoachlaw16.DigestSame'. -/
def digestSameUptoCard : Claim7 := { stood := { row := digestSameUptoRow, standIns := [], harness := (true, "6879b6cf826ee299c990f4f3dd70d6e220efe9cb25deab1c74edb1d60827265e"), looks := true }, kinds := [], alts := [], laidByText := true, laidKinds := [.data, .data, .data, .data, .sentinel, .sentinel, .pinned, .pinned], laidTests := true, laidLooks := .later }
def DigestSameUptoCardSaid : Prop := Claim7.holds Tryz.pinned (.plain (OpenSpec.upto digestSameSpec)) digestSameUptoCard

/-- THE SECOND FORM's CARD OF 'mailcoachlaw16.DigestMarks'. -/
def digestMarksUptoCard : Claim7 := { stood := { row := digestMarksUptoRow, standIns := [], harness := (true, "6879b6cf826ee299c990f4f3dd70d6e220efe9cb25deab1c74edb1d60827265e"), looks := true }, kinds := [], alts := [], laidByText := true, laidKinds := [.data, .data, .data, .data, .sentinel, .sentinel, .pinned, .pinned], laidTests := true, laidLooks := .later }
def DigestMarksUptoCardSaid : Prop := Claim7.holds Tryz.pinned (.plain (OpenSpec.upto digestMarksSpec)) digestMarksUptoCard
end Rows
end Go.Proofs.YtjlpkgipdkjfhaaGreatDoor
