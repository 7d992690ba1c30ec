/-
  DERIVED. GIVEN WITH THE SEED: THE CARDS: each row of YtbpkpmgfbapfpaaDoorRows.lean that lists a variable, with what it lists TIED to the program's text (the seventh form; the later family's looks); each row that meets fmt, with fmt's text TOLD by the authors' own Lean function (tested against real Go, not proved from fmt's source: count such statements apart). THE CARD IS WHAT COUNTS. Prove the row's statement (the work); the ties are given (YtbpkpmgfbapfpaaDoorTie.lean); close each card by the builder's one call (the guide's Derived/Test/ToyasCard.lean, 'card_holds'). Laid BY PROGRAM, IN A SANDBOX (cutbox-door.mjs). By AI agents, Wed Nov 11 2026. No macro, syntax, notation, axiom, sorry.
-/
import Derived.Test.YtbpkpmgfbapfpaaDoorRows
import GoSem.ClaimSeven
namespace Go.Proofs.YtbpkpmgfbapfpaaDoor
namespace Rows

/-- THE TIED CARD OF 'mailcoachlaw07.EntTells'. -/
def entTellsCard : Claim7 := { stood := { row := entTellsRow, standIns := [], harness := (true, "f137e521b0439c53d0994ae8bfa368b07bc3155d81143e4a5e31f3998e5f1f95"), looks := true }, kinds := [], alts := [], laidByText := true, laidKinds := [.data, .data, .data, .data, .sentinel, .sentinel, .pinned], laidTests := true, laidLooks := .later }
def EntTellsCardSaid : Prop := Claim7.holds Tryd.pinned (.plain (OpenSpec.ofChange entTellsSpec)) entTellsCard

/-- THE TIED CARD OF 'mailcoachlaw07.EntBack'. -/
def entBackCard : Claim7 := { stood := { row := entBackRow, standIns := [], harness := (true, "f137e521b0439c53d0994ae8bfa368b07bc3155d81143e4a5e31f3998e5f1f95"), looks := true }, kinds := [], alts := [], laidByText := true, laidKinds := [.data, .data, .data, .data, .sentinel, .sentinel, .pinned], laidTests := true, laidLooks := .later }
def EntBackCardSaid : Prop := Claim7.holds Tryd.pinned (.plain (OpenSpec.ofChange entBackSpec)) entBackCard

/-- THE TIED CARD OF 'mailcoachlaw07.EntLoose'. -/
def entLooseCard : Claim7 := { stood := { row := entLooseRow, standIns := [], harness := (true, "f137e521b0439c53d0994ae8bfa368b07bc3155d81143e4a5e31f3998e5f1f95"), looks := true }, kinds := [], alts := [], laidByText := true, laidKinds := [.data, .data, .data, .data, .sentinel, .sentinel, .pinned], laidTests := true, laidLooks := .later }
def EntLooseCardSaid : Prop := Claim7.holds Tryd.pinned (.plain (OpenSpec.ofChange entLooseSpec)) entLooseCard

/-- THE TIED CARD OF 'mailcoachlaw07.EntRune'. -/
def entRuneCard : Claim7 := { stood := { row := entRuneRow, standIns := [], harness := (true, "f137e521b0439c53d0994ae8bfa368b07bc3155d81143e4a5e31f3998e5f1f95"), looks := true }, kinds := [], alts := [], laidByText := true, laidKinds := [.data, .data, .data, .data, .sentinel, .sentinel, .pinned], laidTests := true, laidLooks := .later }
def EntRuneCardSaid : Prop := Claim7.holds Tryd.pinned (.plain (OpenSpec.ofChange entRuneSpec)) entRuneCard

/-- THE TIED CARD OF 'mailcoachlaw07.EntTrim'. -/
def entTrimCard : Claim7 := { stood := { row := entTrimRow, standIns := [], harness := (true, "f137e521b0439c53d0994ae8bfa368b07bc3155d81143e4a5e31f3998e5f1f95"), looks := true }, kinds := [], alts := [], laidByText := true, laidKinds := [.data, .data, .data, .data, .sentinel, .sentinel, .pinned], laidTests := true, laidLooks := .later }
def EntTrimCardSaid : Prop := Claim7.holds Tryd.pinned (.plain (OpenSpec.ofChange entTrimSpec)) entTrimCard

/-- THE TIED CARD OF 'mailcoachlaw07.EntWords'. -/
def entWordsCard : Claim7 := { stood := { row := entWordsRow, standIns := [], harness := (true, "f137e521b0439c53d0994ae8bfa368b07bc3155d81143e4a5e31f3998e5f1f95"), looks := true }, kinds := [], alts := [], laidByText := true, laidKinds := [.data, .data, .data, .data, .sentinel, .sentinel, .pinned], laidTests := true, laidLooks := .later }
def EntWordsCardSaid : Prop := Claim7.holds Tryd.pinned (.plain (OpenSpec.ofChange entWordsSpec)) entWordsCard

/-- THE SECOND FORM's CARD OF 'mailcoachlaw07.EntTells'. -/
def entTellsUptoCard : Claim7 := { stood := { row := entTellsUptoRow, standIns := [], harness := (true, "f137e521b0439c53d0994ae8bfa368b07bc3155d81143e4a5e31f3998e5f1f95"), looks := true }, kinds := [], alts := [], laidByText := true, laidKinds := [.data, .data, .data, .data, .sentinel, .sentinel, .pinned], laidTests := true, laidLooks := .later }
def EntTellsUptoCardSaid : Prop := Claim7.holds Tryd.pinned (.plain (OpenSpec.upto entTellsSpec)) entTellsUptoCard

/-- THE SECOND FORM's CARD OF 'mailcoachlaw07.EntBack'. -/
def entBackUptoCard : Claim7 := { stood := { row := entBackUptoRow, standIns := [], harness := (true, "f137e521b0439c53d0994ae8bfa368b07bc3155d81143e4a5e31f3998e5f1f95"), looks := true }, kinds := [], alts := [], laidByText := true, laidKinds := [.data, .data, .data, .data, .sentinel, .sentinel, .pinned], laidTests := true, laidLooks := .later }
def EntBackUptoCardSaid : Prop := Claim7.holds Tryd.pinned (.plain (OpenSpec.upto entBackSpec)) entBackUptoCard

/-- THE SECOND FORM's CARD OF 'mailcoachlaw07.EntLoose'. -/
def entLooseUptoCard : Claim7 := { stood := { row := entLooseUptoRow, standIns := [], harness := (true, "f137e521b0439c53d0994ae8bfa368b07bc3155d81143e4a5e31f3998e5f1f95"), looks := true }, kinds := [], alts := [], laidByText := true, laidKinds := [.data, .data, .data, .data, .sentinel, .sentinel, .pinned], laidTests := true, laidLooks := .later }
def EntLooseUptoCardSaid : Prop := Claim7.holds Tryd.pinned (.plain (OpenSpec.upto entLooseSpec)) entLooseUptoCard

/-- THE SECOND FORM's CARD OF 'mailcoachlaw07.EntRune'. -/
def entRuneUptoCard : Claim7 := { stood := { row := entRuneUptoRow, standIns := [], harness := (true, "f137e521b0439c53d0994ae8bfa368b07bc3155d81143e4a5e31f3998e5f1f95"), looks := true }, kinds := [], alts := [], laidByText := true, laidKinds := [.data, .data, .data, .data, .sentinel, .sentinel, .pinned], laidTests := true, laidLooks := .later }
def EntRuneUptoCardSaid : Prop := Claim7.holds Tryd.pinned (.plain (OpenSpec.upto entRuneSpec)) entRuneUptoCard

/-- THE SECOND FORM's CARD OF 'mailcoachlaw07.EntTrim'. -/
def entTrimUptoCard : Claim7 := { stood := { row := entTrimUptoRow, standIns := [], harness := (true, "f137e521b0439c53d0994ae8bfa368b07bc3155d81143e4a5e31f3998e5f1f95"), looks := true }, kinds := [], alts := [], laidByText := true, laidKinds := [.data, .data, .data, .data, .sentinel, .sentinel, .pinned], laidTests := true, laidLooks := .later }
def EntTrimUptoCardSaid : Prop := Claim7.holds Tryd.pinned (.plain (OpenSpec.upto entTrimSpec)) entTrimUptoCard

/-- THE SECOND FORM's CARD OF 'mailcoachlaw07.EntWords'. -/
def entWordsUptoCard : Claim7 := { stood := { row := entWordsUptoRow, standIns := [], harness := (true, "f137e521b0439c53d0994ae8bfa368b07bc3155d81143e4a5e31f3998e5f1f95"), looks := true }, kinds := [], alts := [], laidByText := true, laidKinds := [.data, .data, .data, .data, .sentinel, .sentinel, .pinned], laidTests := true, laidLooks := .later }
def EntWordsUptoCardSaid : Prop := Claim7.holds Tryd.pinned (.plain (OpenSpec.upto entWordsSpec)) entWordsUptoCard
end Rows
end Go.Proofs.YtbpkpmgfbapfpaaDoor
