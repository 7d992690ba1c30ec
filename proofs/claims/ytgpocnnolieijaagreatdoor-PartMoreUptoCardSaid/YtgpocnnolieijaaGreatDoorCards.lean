/-
  DERIVED. GIVEN WITH THE SEED: THE CARDS: each row of YtgpocnnolieijaaGreatDoorRows.lean that lists a variable, with what it lists TIED to the program's text (the seventh form; the later family's looks); each row that meets fmt, with fmt's text TOLD by the authors' own Lean function (tested against real Go, not proved from fmt's source: count such statements apart). THE CARD IS WHAT COUNTS. Prove the row's statement (the work); the ties are given (YtgpocnnolieijaaGreatDoorTie.lean); close each card by the builder's one call (the guide's Derived/Test/ToyasCard.lean, 'card_holds'). Laid BY PROGRAM, IN A SANDBOX (cutbox-door.mjs). By AI agents, Wed Nov 11 2026. No macro, syntax, notation, axiom, sorry.
-/
import Derived.Test.YtgpocnnolieijaaGreatDoorRows
import GoSem.ClaimSeven
namespace Go.Proofs.YtgpocnnolieijaaGreatDoor
namespace Rows

/-- THE TIED CARD OF 'mailcoachlaw15.PartJoins'. -/
def partJoinsCard : Claim7 := { stood := { row := partJoinsRow, standIns := [], harness := (true, "a68746b0d2e5a2ac0801f809fd55ddef52b023357ea1c14f98d5ccfd1ff3ac4d"), looks := false }, kinds := [], alts := [], laidByText := true, laidKinds := [.data, .data, .data, .data, .pinned], laidTests := true, laidLooks := .later }
def PartJoinsCardSaid : Prop := Claim7.holds Tryz.pinned (.plain (OpenSpec.ofChange partJoinsSpec)) partJoinsCard

/-- THE TIED CARD OF 'mailcoachlaw15.PartSplits'. -/
def partSplitsCard : Claim7 := { stood := { row := partSplitsRow, standIns := [], harness := (true, "a68746b0d2e5a2ac0801f809fd55ddef52b023357ea1c14f98d5ccfd1ff3ac4d"), looks := false }, kinds := [], alts := [], laidByText := true, laidKinds := [.data, .data, .data, .data, .pinned], laidTests := true, laidLooks := .later }
def PartSplitsCardSaid : Prop := Claim7.holds Tryz.pinned (.plain (OpenSpec.ofChange partSplitsSpec)) partSplitsCard

/-- THE TIED CARD OF 'mailcoachlaw15.PartBack'. -/
def partBackCard : Claim7 := { stood := { row := partBackRow, standIns := [], harness := (true, "a68746b0d2e5a2ac0801f809fd55ddef52b023357ea1c14f98d5ccfd1ff3ac4d"), looks := false }, kinds := [], alts := [], laidByText := true, laidKinds := [.data, .data, .data, .data, .pinned], laidTests := true, laidLooks := .later }
def PartBackCardSaid : Prop := Claim7.holds Tryz.pinned (.plain (OpenSpec.ofChange partBackSpec)) partBackCard

/-- THE TIED CARD OF 'mailcoachlaw15.PartSafe'. -/
def partSafeCard : Claim7 := { stood := { row := partSafeRow, standIns := [], harness := (true, "a68746b0d2e5a2ac0801f809fd55ddef52b023357ea1c14f98d5ccfd1ff3ac4d"), looks := false }, kinds := [], alts := [], laidByText := true, laidKinds := [.data, .data, .data, .data, .pinned], laidTests := true, laidLooks := .later }
def PartSafeCardSaid : Prop := Claim7.holds Tryz.pinned (.plain (OpenSpec.ofChange partSafeSpec)) partSafeCard

/-- THE TIED CARD OF 'mailcoachlaw15.PartMore'. -/
def partMoreCard : Claim7 := { stood := { row := partMoreRow, standIns := [], harness := (true, "a68746b0d2e5a2ac0801f809fd55ddef52b023357ea1c14f98d5ccfd1ff3ac4d"), looks := false }, kinds := [], alts := [], laidByText := true, laidKinds := [.data, .data, .data, .data, .pinned], laidTests := true, laidLooks := .later }
def PartMoreCardSaid : Prop := Claim7.holds Tryz.pinned (.plain (OpenSpec.ofChange partMoreSpec)) partMoreCard

/-- THE SECOND FORM's CARD OF 'mailcoachlaw15.PartJoins'. -/
def partJoinsUptoCard : Claim7 := { stood := { row := partJoinsUptoRow, standIns := [], harness := (true, "a68746b0d2e5a2ac0801f809fd55ddef52b023357ea1c14f98d5ccfd1ff3ac4d"), looks := false }, kinds := [], alts := [], laidByText := true, laidKinds := [.data, .data, .data, .data, .pinned], laidTests := true, laidLooks := .later }
def PartJoinsUptoCardSaid : Prop := Claim7.holds Tryz.pinned (.plain (OpenSpec.upto partJoinsSpec)) partJoinsUptoCard

/-- THE SECOND FORM's CARD OF 'mailcoachlaw15.PartSplits'. -/
def partSplitsUptoCard : Claim7 := { stood := { row := partSplitsUptoRow, standIns := [], harness := (true, "a68746b0d2e5a2ac0801f809fd55ddef52b023357ea1c14f98d5ccfd1ff3ac4d"), looks := false }, kinds := [], alts := [], laidByText := true, laidKinds := [.data, .data, .data, .data, .pinned], laidTests := true, laidLooks := .later }
def PartSplitsUptoCardSaid : Prop := Claim7.holds Tryz.pinned (.plain (OpenSpec.upto partSplitsSpec)) partSplitsUptoCard

/-- THE SECOND FORM's CARD OF 'mailcoachlaw15.PartBack'. -/
def partBackUptoCard : Claim7 := { stood := { row := partBackUptoRow, standIns := [], harness := (true, "a68746b0d2e5a2ac0801f809fd55ddef52b023357ea1c14f98d5ccfd1ff3ac4d"), looks := false }, kinds := [], alts := [], laidByText := true, laidKinds := [.data, .data, .data, .data, .pinned], laidTests := true, laidLooks := .later }
def PartBackUptoCardSaid : Prop := Claim7.holds Tryz.pinned (.plain (OpenSpec.upto partBackSpec)) partBackUptoCard

/-- THE SECOND FORM's CARD OF 'mailcoachlaw15.PartSafe'. -/
def partSafeUptoCard : Claim7 := { stood := { row := partSafeUptoRow, standIns := [], harness := (true, "a68746b0d2e5a2ac0801f809fd55ddef52b023357ea1c14f98d5ccfd1ff3ac4d"), looks := false }, kinds := [], alts := [], laidByText := true, laidKinds := [.data, .data, .data, .data, .pinned], laidTests := true, laidLooks := .later }
def PartSafeUptoCardSaid : Prop := Claim7.holds Tryz.pinned (.plain (OpenSpec.upto partSafeSpec)) partSafeUptoCard

/-- THE SECOND FORM's CARD OF 'mailcoachlaw15.PartMore'. -/
def partMoreUptoCard : Claim7 := { stood := { row := partMoreUptoRow, standIns := [], harness := (true, "a68746b0d2e5a2ac0801f809fd55ddef52b023357ea1c14f98d5ccfd1ff3ac4d"), looks := false }, kinds := [], alts := [], laidByText := true, laidKinds := [.data, .data, .data, .data, .pinned], laidTests := true, laidLooks := .later }
def PartMoreUptoCardSaid : Prop := Claim7.holds Tryz.pinned (.plain (OpenSpec.upto partMoreSpec)) partMoreUptoCard
end Rows
end Go.Proofs.YtgpocnnolieijaaGreatDoor
