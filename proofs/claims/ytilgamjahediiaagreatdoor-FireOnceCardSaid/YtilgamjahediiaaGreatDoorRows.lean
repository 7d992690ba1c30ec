/-
  NARROWER THAN 'FOR EVERY INPUT', by the rows' own cells (each row's printed sentence says how): FireTells: laid · FireNext: laid · FireFirst: laid · FireOnce: laid · FireSkipped: laid · FireBounds: laid · FireShift: laid.
  DERIVED. THE GIVEN ROWS OF THIS SEAT. 7 by the template 'for every input the law returns true; each argument reads behind the call as it read before'; 0 by the template 'total and deterministic' (their statements: YtilgamjahediiaaGreatDoorTotals.lean).
  GIVEN WITH THE SEED: the statements are not yours to turn. If you find one false, say at which input.
  Laid BY PROGRAM, IN A SANDBOX (cutbox-rows.mjs): the forced cells as the released guide's own fill.sh prints them over the translation 96eacc8903e62529… (all of the seat's roots in one cut). By AI agents, Wed Nov 11 2026. No macro, syntax, notation, axiom, sorry.
-/
import Derived.Test.YtilgamjahediiaaGreatDoorChecked
import GoSem.PinnedTables
import GoSem.Claim
import GoSem.ClaimJoined
import GoSem.ClaimMapViews
import Derived.JoinedTies
import Derived.KernelRfl
namespace Go.Proofs.YtilgamjahediiaaGreatDoor
/- THE CELL 'sum', in the pinned program and in every row, IS THE sha256 OF THE DUMP (.gsa) THAT YtilgamjahediiaaGreatDoorProg.lean LOADS. Nothing in Lean hashes anything: it is a label: what it is worth is what the hold of that sum in a sandbox is worth. -/
noncomputable def Tryz.pinned : Pinned := { name := "ytilgamjahediiaagreatdoor", sum := "96eacc8903e62529fff85e8f06c672c87eb5adcdf26c91241ee539d30fb074a5", checked := Tryz.checked }
namespace Rows
def none {H : Type} : Left H := { results := [], args := [] }

/- WHAT THE LISTED PACKAGE-LEVEL VARIABLES READ AS WHEN THE CALL BEGINS. Each datum BY PROGRAM (the guide's laid-datum.mjs) off the statement by which the dump's own 'gosem.cut.vars' lays the variable. In a bare row this is a premise. The card (YtilgamjahediiaaGreatDoorCards.lean) ties it to the program's text. -/
def laid_unicode_utf8_acceptRanges {H : Type} : DataW H := .agg [.agg [.lit (.int .u8 128), .lit (.int .u8 191)], .agg [.lit (.int .u8 160), .lit (.int .u8 191)], .agg [.lit (.int .u8 128), .lit (.int .u8 159)], .agg [.lit (.int .u8 144), .lit (.int .u8 191)], .agg [.lit (.int .u8 128), .lit (.int .u8 143)], .agg [.lit (.int .u8 0), .lit (.int .u8 0)], .agg [.lit (.int .u8 0), .lit (.int .u8 0)], .agg [.lit (.int .u8 0), .lit (.int .u8 0)], .agg [.lit (.int .u8 0), .lit (.int .u8 0)], .agg [.lit (.int .u8 0), .lit (.int .u8 0)], .agg [.lit (.int .u8 0), .lit (.int .u8 0)], .agg [.lit (.int .u8 0), .lit (.int .u8 0)], .agg [.lit (.int .u8 0), .lit (.int .u8 0)], .agg [.lit (.int .u8 0), .lit (.int .u8 0)], .agg [.lit (.int .u8 0), .lit (.int .u8 0)], .agg [.lit (.int .u8 0), .lit (.int .u8 0)]]
/-- One of Go's own tables, pinned by name: the form's constant. -/
def laid_unicode_CaseRanges : DataW Unit := Go.Pinned.caseRanges
/-- One of Go's own tables, pinned by name: the form's constant. -/
def laid_unicode_utf8_first : DataW Unit := Go.Pinned.utf8First

/-- 'mailcoachlaw06.FireTells': WHATEVER THE INPUT: true; the input reads as it did. -/
def fireTellsSpec : ChangeSpec := { name := "fireTells", fn := fun _ => fun
  | [d1, d2, d3] => { results := [.lit (.bool true)], args := [d1, d2, d3] }
  | _ => none }
def fireTellsRow : OpenClaim := { program := "ytilgamjahediiaagreatdoor", sum := "96eacc8903e62529fff85e8f06c672c87eb5adcdf26c91241ee539d30fb074a5", func := "mailcoach/mailcoachlaw06.FireTells", spec := "fireTells", inPlace := ["internal/bytealg.CountString", "internal/bytealg.IndexByteString", "internal/bytealg.IndexString", "internal/abi.NoEscape", "internal/bytealg.MakeNoZero"], unfollowed := true, recurses := true, named := ["unicode/utf8.first", "unicode/utf8.acceptRanges", "internal/bytealg.MaxLen", "unicode.CaseRanges"], apart := false, laid := [("unicode/utf8.acceptRanges", laid_unicode_utf8_acceptRanges), ("unicode.CaseRanges", laid_unicode_CaseRanges), ("unicode/utf8.first", laid_unicode_utf8_first)] }
def FireTellsSaid : Prop := fireTellsRow.holds Tryz.pinned (OpenSpec.ofChange fireTellsSpec)

/-- ITS FALSE NEIGHBOUR: 'it returns false'. Refute it at one input. -/
def fireTellsWrong : ChangeSpec := { name := "fireTells", fn := fun _ => fun
  | [d1, d2, d3] => { results := [.lit (.bool false)], args := [d1, d2, d3] }
  | _ => none }
def FireTellsWrongFalsely : Prop := fireTellsRow.holds Tryz.pinned (OpenSpec.ofChange fireTellsWrong)

/-- 'mailcoachlaw06.FireNext': WHATEVER THE INPUT: true; the input reads as it did. -/
def fireNextSpec : ChangeSpec := { name := "fireNext", fn := fun _ => fun
  | [d1, d2, d3, d4] => { results := [.lit (.bool true)], args := [d1, d2, d3, d4] }
  | _ => none }
def fireNextRow : OpenClaim := { program := "ytilgamjahediiaagreatdoor", sum := "96eacc8903e62529fff85e8f06c672c87eb5adcdf26c91241ee539d30fb074a5", func := "mailcoach/mailcoachlaw06.FireNext", spec := "fireNext", inPlace := ["internal/bytealg.CountString", "internal/bytealg.IndexByteString", "internal/bytealg.IndexString", "internal/abi.NoEscape", "internal/bytealg.MakeNoZero"], unfollowed := true, recurses := true, named := ["unicode/utf8.first", "unicode/utf8.acceptRanges", "internal/bytealg.MaxLen", "unicode.CaseRanges"], apart := false, laid := [("unicode/utf8.acceptRanges", laid_unicode_utf8_acceptRanges), ("unicode.CaseRanges", laid_unicode_CaseRanges), ("unicode/utf8.first", laid_unicode_utf8_first)] }
def FireNextSaid : Prop := fireNextRow.holds Tryz.pinned (OpenSpec.ofChange fireNextSpec)

/-- ITS FALSE NEIGHBOUR: 'it returns false'. Refute it at one input. -/
def fireNextWrong : ChangeSpec := { name := "fireNext", fn := fun _ => fun
  | [d1, d2, d3, d4] => { results := [.lit (.bool false)], args := [d1, d2, d3, d4] }
  | _ => none }
def FireNextWrongFalsely : Prop := fireNextRow.holds Tryz.pinned (OpenSpec.ofChange fireNextWrong)

/-- 'mailcoachlaw06.FireFirst': WHATEVER THE INPUT: true; the input reads as it did. -/
def fireFirstSpec : ChangeSpec := { name := "fireFirst", fn := fun _ => fun
  | [d1, d2, d3, d4, d5] => { results := [.lit (.bool true)], args := [d1, d2, d3, d4, d5] }
  | _ => none }
def fireFirstRow : OpenClaim := { program := "ytilgamjahediiaagreatdoor", sum := "96eacc8903e62529fff85e8f06c672c87eb5adcdf26c91241ee539d30fb074a5", func := "mailcoach/mailcoachlaw06.FireFirst", spec := "fireFirst", inPlace := ["internal/bytealg.CountString", "internal/bytealg.IndexByteString", "internal/bytealg.IndexString", "internal/abi.NoEscape", "internal/bytealg.MakeNoZero"], unfollowed := true, recurses := true, named := ["unicode/utf8.first", "unicode/utf8.acceptRanges", "internal/bytealg.MaxLen", "unicode.CaseRanges"], apart := false, laid := [("unicode/utf8.acceptRanges", laid_unicode_utf8_acceptRanges), ("unicode.CaseRanges", laid_unicode_CaseRanges), ("unicode/utf8.first", laid_unicode_utf8_first)] }
def FireFirstSaid : Prop := fireFirstRow.holds Tryz.pinned (OpenSpec.ofChange fireFirstSpec)

/-- ITS FALSE NEIGHBOUR: 'it returns false'. Refute it at one input. -/
def fireFirstWrong : ChangeSpec := { name := "fireFirst", fn := fun _ => fun
  | [d1, d2, d3, d4, d5] => { results := [.lit (.bool false)], args := [d1, d2, d3, d4, d5] }
  | _ => none }
def FireFirstWrongFalsely : Prop := fireFirstRow.holds Tryz.pinned (OpenSpec.ofChange fireFirstWrong)

/-- 'mailcoachlaw06.FireOnce': WHATEVER THE INPUT: true; the input reads as it did. -/
def fireOnceSpec : ChangeSpec := { name := "fireOnce", fn := fun _ => fun
  | [d1, d2, d3] => { results := [.lit (.bool true)], args := [d1, d2, d3] }
  | _ => none }
def fireOnceRow : OpenClaim := { program := "ytilgamjahediiaagreatdoor", sum := "96eacc8903e62529fff85e8f06c672c87eb5adcdf26c91241ee539d30fb074a5", func := "mailcoach/mailcoachlaw06.FireOnce", spec := "fireOnce", inPlace := ["internal/bytealg.CountString", "internal/bytealg.IndexByteString", "internal/bytealg.IndexString", "internal/abi.NoEscape", "internal/bytealg.MakeNoZero"], unfollowed := true, recurses := true, named := ["unicode/utf8.first", "unicode/utf8.acceptRanges", "internal/bytealg.MaxLen", "unicode.CaseRanges"], apart := false, laid := [("unicode/utf8.acceptRanges", laid_unicode_utf8_acceptRanges), ("unicode.CaseRanges", laid_unicode_CaseRanges), ("unicode/utf8.first", laid_unicode_utf8_first)] }
def FireOnceSaid : Prop := fireOnceRow.holds Tryz.pinned (OpenSpec.ofChange fireOnceSpec)

/-- ITS FALSE NEIGHBOUR: 'it returns false'. Refute it at one input. -/
def fireOnceWrong : ChangeSpec := { name := "fireOnce", fn := fun _ => fun
  | [d1, d2, d3] => { results := [.lit (.bool false)], args := [d1, d2, d3] }
  | _ => none }
def FireOnceWrongFalsely : Prop := fireOnceRow.holds Tryz.pinned (OpenSpec.ofChange fireOnceWrong)

/-- 'mailcoachlaw06.FireSkipped': WHATEVER THE INPUT: true; the input reads as it did. -/
def fireSkippedSpec : ChangeSpec := { name := "fireSkipped", fn := fun _ => fun
  | [d1, d2, d3, d4] => { results := [.lit (.bool true)], args := [d1, d2, d3, d4] }
  | _ => none }
def fireSkippedRow : OpenClaim := { program := "ytilgamjahediiaagreatdoor", sum := "96eacc8903e62529fff85e8f06c672c87eb5adcdf26c91241ee539d30fb074a5", func := "mailcoach/mailcoachlaw06.FireSkipped", spec := "fireSkipped", inPlace := ["internal/bytealg.CountString", "internal/bytealg.IndexByteString", "internal/bytealg.IndexString", "internal/abi.NoEscape", "internal/bytealg.MakeNoZero"], unfollowed := true, recurses := true, named := ["unicode/utf8.first", "unicode/utf8.acceptRanges", "internal/bytealg.MaxLen", "unicode.CaseRanges"], apart := false, laid := [("unicode/utf8.acceptRanges", laid_unicode_utf8_acceptRanges), ("unicode.CaseRanges", laid_unicode_CaseRanges), ("unicode/utf8.first", laid_unicode_utf8_first)] }
def FireSkippedSaid : Prop := fireSkippedRow.holds Tryz.pinned (OpenSpec.ofChange fireSkippedSpec)

/-- ITS FALSE NEIGHBOUR: 'it returns false'. Refute it at one input. -/
def fireSkippedWrong : ChangeSpec := { name := "fireSkipped", fn := fun _ => fun
  | [d1, d2, d3, d4] => { results := [.lit (.bool false)], args := [d1, d2, d3, d4] }
  | _ => none }
def FireSkippedWrongFalsely : Prop := fireSkippedRow.holds Tryz.pinned (OpenSpec.ofChange fireSkippedWrong)

/-- 'mailcoachlaw06.FireBounds': WHATEVER THE INPUT: true; the input reads as it did. -/
def fireBoundsSpec : ChangeSpec := { name := "fireBounds", fn := fun _ => fun
  | [d1, d2, d3, d4] => { results := [.lit (.bool true)], args := [d1, d2, d3, d4] }
  | _ => none }
def fireBoundsRow : OpenClaim := { program := "ytilgamjahediiaagreatdoor", sum := "96eacc8903e62529fff85e8f06c672c87eb5adcdf26c91241ee539d30fb074a5", func := "mailcoach/mailcoachlaw06.FireBounds", spec := "fireBounds", inPlace := ["internal/bytealg.CountString", "internal/bytealg.IndexByteString", "internal/bytealg.IndexString", "internal/abi.NoEscape", "internal/bytealg.MakeNoZero"], unfollowed := true, recurses := true, named := ["unicode/utf8.first", "unicode/utf8.acceptRanges", "internal/bytealg.MaxLen", "unicode.CaseRanges"], apart := false, laid := [("unicode/utf8.acceptRanges", laid_unicode_utf8_acceptRanges), ("unicode.CaseRanges", laid_unicode_CaseRanges), ("unicode/utf8.first", laid_unicode_utf8_first)] }
def FireBoundsSaid : Prop := fireBoundsRow.holds Tryz.pinned (OpenSpec.ofChange fireBoundsSpec)

/-- ITS FALSE NEIGHBOUR: 'it returns false'. Refute it at one input. -/
def fireBoundsWrong : ChangeSpec := { name := "fireBounds", fn := fun _ => fun
  | [d1, d2, d3, d4] => { results := [.lit (.bool false)], args := [d1, d2, d3, d4] }
  | _ => none }
def FireBoundsWrongFalsely : Prop := fireBoundsRow.holds Tryz.pinned (OpenSpec.ofChange fireBoundsWrong)

/-- 'mailcoachlaw06.FireShift': WHATEVER THE INPUT: true; the input reads as it did. -/
def fireShiftSpec : ChangeSpec := { name := "fireShift", fn := fun _ => fun
  | [d1, d2, d3] => { results := [.lit (.bool true)], args := [d1, d2, d3] }
  | _ => none }
def fireShiftRow : OpenClaim := { program := "ytilgamjahediiaagreatdoor", sum := "96eacc8903e62529fff85e8f06c672c87eb5adcdf26c91241ee539d30fb074a5", func := "mailcoach/mailcoachlaw06.FireShift", spec := "fireShift", inPlace := ["internal/bytealg.CountString", "internal/bytealg.IndexByteString", "internal/bytealg.IndexString", "internal/abi.NoEscape", "internal/bytealg.MakeNoZero"], unfollowed := true, recurses := true, named := ["unicode/utf8.first", "unicode/utf8.acceptRanges", "internal/bytealg.MaxLen", "unicode.CaseRanges"], apart := false, laid := [("unicode/utf8.acceptRanges", laid_unicode_utf8_acceptRanges), ("unicode.CaseRanges", laid_unicode_CaseRanges), ("unicode/utf8.first", laid_unicode_utf8_first)] }
def FireShiftSaid : Prop := fireShiftRow.holds Tryz.pinned (OpenSpec.ofChange fireShiftSpec)

/-- ITS FALSE NEIGHBOUR: 'it returns false'. Refute it at one input. -/
def fireShiftWrong : ChangeSpec := { name := "fireShift", fn := fun _ => fun
  | [d1, d2, d3] => { results := [.lit (.bool false)], args := [d1, d2, d3] }
  | _ => none }
def FireShiftWrongFalsely : Prop := fireShiftRow.holds Tryz.pinned (OpenSpec.ofChange fireShiftWrong)

/- THE SECOND FORM. 'bulk': how many values and letters a reading holds, each counted each time it is reached (what is shared counts as often as it is met; a slice's spare places count too). A statement '..UptoSaid' is the law's where the arguments, and the package variables that the reading takes, are together of bulk at most 1048576: NARROWER than '..Said'. Prove '..Said' where nothing that the law and all that it calls make is longer than what came in: it says more and counts as full. Else prove '..UptoSaid'. A law counts once. -/
mutual
def uptoBulk {H : Type} : DataW H → Nat
  | .lit (.string bytes) => bytes.length + 1
  | .lit _ => 1
  | .nil => 1
  | .ptr d => uptoBulk d + 1
  | .slice elems spare => uptoBulkAll elems + uptoBulkAll spare + 1
  | .agg parts => uptoBulkAll parts + 1
  | .iface _ d => uptoBulk d + 1
  | .map entries => uptoBulkEntries entries + 1
  | .held _ => 1
def uptoBulkAll {H : Type} : List (DataW H) → Nat
  | [] => 0
  | d :: r => uptoBulk d + uptoBulkAll r
def uptoBulkEntries {H : Type} : List (Lit × DataW H) → Nat
  | [] => 0
  | x :: r => uptoBulkEntry x + uptoBulkEntries r
def uptoBulkEntry {H : Type} : Lit × DataW H → Nat
  | (.string bytes, d) => bytes.length + uptoBulk d + 1
  | (_, d) => uptoBulk d + 1
 end
def uptoSmall : (H : Type) → List (DataW H) → Bool := fun _ ds => decide (uptoBulkAll ds ≤ 1048576)
def OpenSpec.upto (s : _root_.Go.ChangeSpec) : _root_.Go.OpenSpec := { _root_.Go.OpenSpec.ofChange s with cond := some uptoSmall }

/-- 'mailcoachlaw06.FireTells', WHERE WHAT IT READS IS OF BULK AT MOST 1048576: true; the input reads as it did. -/
def fireTellsUptoRow : OpenClaim := { program := "ytilgamjahediiaagreatdoor", sum := "96eacc8903e62529fff85e8f06c672c87eb5adcdf26c91241ee539d30fb074a5", func := "mailcoach/mailcoachlaw06.FireTells", spec := "fireTells", inPlace := ["internal/bytealg.CountString", "internal/bytealg.IndexByteString", "internal/bytealg.IndexString", "internal/abi.NoEscape", "internal/bytealg.MakeNoZero"], unfollowed := true, recurses := true, named := ["unicode/utf8.first", "unicode/utf8.acceptRanges", "internal/bytealg.MaxLen", "unicode.CaseRanges"], apart := false, laid := [("unicode/utf8.acceptRanges", laid_unicode_utf8_acceptRanges), ("unicode.CaseRanges", laid_unicode_CaseRanges), ("unicode/utf8.first", laid_unicode_utf8_first)], narrowed := true }
def FireTellsUptoSaid : Prop := fireTellsUptoRow.holds Tryz.pinned (OpenSpec.upto fireTellsSpec)

/-- 'mailcoachlaw06.FireNext', WHERE WHAT IT READS IS OF BULK AT MOST 1048576: true; the input reads as it did. -/
def fireNextUptoRow : OpenClaim := { program := "ytilgamjahediiaagreatdoor", sum := "96eacc8903e62529fff85e8f06c672c87eb5adcdf26c91241ee539d30fb074a5", func := "mailcoach/mailcoachlaw06.FireNext", spec := "fireNext", inPlace := ["internal/bytealg.CountString", "internal/bytealg.IndexByteString", "internal/bytealg.IndexString", "internal/abi.NoEscape", "internal/bytealg.MakeNoZero"], unfollowed := true, recurses := true, named := ["unicode/utf8.first", "unicode/utf8.acceptRanges", "internal/bytealg.MaxLen", "unicode.CaseRanges"], apart := false, laid := [("unicode/utf8.acceptRanges", laid_unicode_utf8_acceptRanges), ("unicode.CaseRanges", laid_unicode_CaseRanges), ("unicode/utf8.first", laid_unicode_utf8_first)], narrowed := true }
def FireNextUptoSaid : Prop := fireNextUptoRow.holds Tryz.pinned (OpenSpec.upto fireNextSpec)

/-- 'mailcoachlaw06.FireFirst', WHERE WHAT IT READS IS OF BULK AT MOST 1048576: true; the input reads as it did. -/
def fireFirstUptoRow : OpenClaim := { program := "ytilgamjahediiaagreatdoor", sum := "96eacc8903e62529fff85e8f06c672c87eb5adcdf26c91241ee539d30fb074a5", func := "mailcoach/mailcoachlaw06.FireFirst", spec := "fireFirst", inPlace := ["internal/bytealg.CountString", "internal/bytealg.IndexByteString", "internal/bytealg.IndexString", "internal/abi.NoEscape", "internal/bytealg.MakeNoZero"], unfollowed := true, recurses := true, named := ["unicode/utf8.first", "unicode/utf8.acceptRanges", "internal/bytealg.MaxLen", "unicode.CaseRanges"], apart := false, laid := [("unicode/utf8.acceptRanges", laid_unicode_utf8_acceptRanges), ("unicode.CaseRanges", laid_unicode_CaseRanges), ("unicode/utf8.first", laid_unicode_utf8_first)], narrowed := true }
def FireFirstUptoSaid : Prop := fireFirstUptoRow.holds Tryz.pinned (OpenSpec.upto fireFirstSpec)

/-- 'mailcoachlaw06.FireOnce', WHERE WHAT IT READS IS OF BULK AT MOST 1048576: true; the input reads as it did. -/
def fireOnceUptoRow : OpenClaim := { program := "ytilgamjahediiaagreatdoor", sum := "96eacc8903e62529fff85e8f06c672c87eb5adcdf26c91241ee539d30fb074a5", func := "mailcoach/mailcoachlaw06.FireOnce", spec := "fireOnce", inPlace := ["internal/bytealg.CountString", "internal/bytealg.IndexByteString", "internal/bytealg.IndexString", "internal/abi.NoEscape", "internal/bytealg.MakeNoZero"], unfollowed := true, recurses := true, named := ["unicode/utf8.first", "unicode/utf8.acceptRanges", "internal/bytealg.MaxLen", "unicode.CaseRanges"], apart := false, laid := [("unicode/utf8.acceptRanges", laid_unicode_utf8_acceptRanges), ("unicode.CaseRanges", laid_unicode_CaseRanges), ("unicode/utf8.first", laid_unicode_utf8_first)], narrowed := true }
def FireOnceUptoSaid : Prop := fireOnceUptoRow.holds Tryz.pinned (OpenSpec.upto fireOnceSpec)

/-- 'mailcoachlaw06.FireSkipped', WHERE WHAT IT READS IS OF BULK AT MOST 1048576: true; the input reads as it did. -/
def fireSkippedUptoRow : OpenClaim := { program := "ytilgamjahediiaagreatdoor", sum := "96eacc8903e62529fff85e8f06c672c87eb5adcdf26c91241ee539d30fb074a5", func := "mailcoach/mailcoachlaw06.FireSkipped", spec := "fireSkipped", inPlace := ["internal/bytealg.CountString", "internal/bytealg.IndexByteString", "internal/bytealg.IndexString", "internal/abi.NoEscape", "internal/bytealg.MakeNoZero"], unfollowed := true, recurses := true, named := ["unicode/utf8.first", "unicode/utf8.acceptRanges", "internal/bytealg.MaxLen", "unicode.CaseRanges"], apart := false, laid := [("unicode/utf8.acceptRanges", laid_unicode_utf8_acceptRanges), ("unicode.CaseRanges", laid_unicode_CaseRanges), ("unicode/utf8.first", laid_unicode_utf8_first)], narrowed := true }
def FireSkippedUptoSaid : Prop := fireSkippedUptoRow.holds Tryz.pinned (OpenSpec.upto fireSkippedSpec)

/-- 'mailcoachlaw06.FireBounds', WHERE WHAT IT READS IS OF BULK AT MOST 1048576: true; the input reads as it did. -/
def fireBoundsUptoRow : OpenClaim := { program := "ytilgamjahediiaagreatdoor", sum := "96eacc8903e62529fff85e8f06c672c87eb5adcdf26c91241ee539d30fb074a5", func := "mailcoach/mailcoachlaw06.FireBounds", spec := "fireBounds", inPlace := ["internal/bytealg.CountString", "internal/bytealg.IndexByteString", "internal/bytealg.IndexString", "internal/abi.NoEscape", "internal/bytealg.MakeNoZero"], unfollowed := true, recurses := true, named := ["unicode/utf8.first", "unicode/utf8.acceptRanges", "internal/bytealg.MaxLen", "unicode.CaseRanges"], apart := false, laid := [("unicode/utf8.acceptRanges", laid_unicode_utf8_acceptRanges), ("unicode.CaseRanges", laid_unicode_CaseRanges), ("unicode/utf8.first", laid_unicode_utf8_first)], narrowed := true }
def FireBoundsUptoSaid : Prop := fireBoundsUptoRow.holds Tryz.pinned (OpenSpec.upto fireBoundsSpec)

/-- 'mailcoachlaw06.FireShift', WHERE WHAT IT READS IS OF BULK AT MOST 1048576: true; the input reads as it did. -/
def fireShiftUptoRow : OpenClaim := { program := "ytilgamjahediiaagreatdoor", sum := "96eacc8903e62529fff85e8f06c672c87eb5adcdf26c91241ee539d30fb074a5", func := "mailcoach/mailcoachlaw06.FireShift", spec := "fireShift", inPlace := ["internal/bytealg.CountString", "internal/bytealg.IndexByteString", "internal/bytealg.IndexString", "internal/abi.NoEscape", "internal/bytealg.MakeNoZero"], unfollowed := true, recurses := true, named := ["unicode/utf8.first", "unicode/utf8.acceptRanges", "internal/bytealg.MaxLen", "unicode.CaseRanges"], apart := false, laid := [("unicode/utf8.acceptRanges", laid_unicode_utf8_acceptRanges), ("unicode.CaseRanges", laid_unicode_CaseRanges), ("unicode/utf8.first", laid_unicode_utf8_first)], narrowed := true }
def FireShiftUptoSaid : Prop := fireShiftUptoRow.holds Tryz.pinned (OpenSpec.upto fireShiftSpec)

end Rows
end Go.Proofs.YtilgamjahediiaaGreatDoor
